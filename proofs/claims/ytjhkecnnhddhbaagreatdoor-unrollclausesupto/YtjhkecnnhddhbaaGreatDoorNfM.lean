/- Solve, of clauses that are lost from the first: the walks. -/
import Derived.Test.YtjhkecnnhddhbaaGreatDoorLvM
namespace Go.Proofs.YtjhkecnnhddhbaaGreatDoor.Sr
open Go.RowKit Go.Maps Go.Proofs.YtjhkecnnhddhbaaGreatDoor.Pf
set_option maxRecDepth 100000
set_option maxHeartbeats 4000000 in
theorem refused_few (s : Nat) (pl pp : Option Addr) (n m cl pc : Nat) (hr : n + m ≤ 800000) (w : World) (h3 : w.cell? ⟨s, 3, none⟩ = some (.slice pl n cl)) :
   Calls Tryz.prog 183 #[.pointer (some ⟨s, 0, none⟩), .slice pp m pc] w fun e w' => e = .returned (.agg #[.int .i64 2, .slice none 0 0, .slice pp m pc]) ∧ Below w.heap.size w w' := by
 have hb1 : Below w.heap.size w (w.alloc (.cells #[.int .i64 0, .slice none 0 0, .slice none 0 0] 160)) := bal (Below.refl _ _) _
 have y3 := cell_later hb1 h3
 have ww := wrap_in (800000 - (n : Int)) (by omega) (by omega)
 have hfit : decide ((m : Int) ≤ 800000 - (n : Int)) = true := by simp; omega
 clear hb1 h3
 go_enter Tryz.func183, Tryz.ntmps183
 go_wp2
 try simp only [Exit.inBlock, Exit.then]
 refine bodyPost_ret (results_cell_row rfl _ _ w.heap.size 160 _ _ _ rfl (MapKept.heap_alloc w _).1 Tryz.underlying160 rfl (by kernel_rfl)) rfl ?_
 exact ⟨rfl, bal (Below.refl _ _) _⟩
def RnNo (w : World) (base : Nat) (e : Ending) (w' : World) : Prop := ∃ p c, e = .returned (.agg #[.int .i64 2, .slice none 0 0, .slice p 1 c]) ∧ Below base w w'
set_option maxHeartbeats 4000000 in
theorem run_lost (base : Nat) (w : World) (s : Nat) (XB XQ : Nat → Prop) (R nS nW q gp gw gm gl : Nat) (vh : Value) (pl : Option Addr) (n cl : Nat) (S : Sx) (h : Ser base w s XB XQ R nS nW q gp gw gm gl vh (.slice pl n cl) (.slice none 0 0) S) (hlo : S.B.lost = true) (hn : n + 1 ≤ 800000) :
   Calls Tryz.prog 159 #[.pointer (some ⟨s, 0, none⟩)] w (RnNo w base) := by
 have hbs : base ≤ w.heap.size := by have := h.sx; have := h.ss.1; omega
 have hb1 : Below w.heap.size w (w.alloc (.cells #[.int .i64 0, .slice none 0 0, .slice none 0 0] 160)) := bal (Below.refl _ _) _
 have HS := hide (h.later hb1)
 have HG : Hid ((w.alloc (.cells #[.int .i64 0, .slice none 0 0, .slice none 0 0] 160)).heap[w.heap.size]? = some (.cells #[.int .i64 0, .slice none 0 0, .slice none 0 0] 160)) := (MapKept.heap_alloc w _).1
 have HB1 := hide (hb1.mono hbs)
 have hGs : w.heap.size < (w.alloc (.cells #[.int .i64 0, .slice none 0 0, .slice none 0 0] 160)).heap.size := by simp
 clear h hb1
 go_enter Tryz.func159, Tryz.ntmps159
 go_wp2_with fail
 generalize w.alloc (.cells #[.int .i64 0, .slice none 0 0, .slice none 0 0] 160) = w1 at *
 generalize w.heap.size = G at *
 obtain ⟨vp1, w2, hr2, ho2, hold2, hsz2, o2, t2, u2, ⟨p2, k2, c2, hv2⟩⟩ := own_append22 (row_nil w1 0 25 1) none 0 0 (by decide) 28
 have hb2 : Below w1.heap.size w1 w2 := ⟨o2, t2, u2, hsz2, fun g hg => hold2 g hg fun e => by cases e⟩
 have hk2 : k2 = 1 := by
   rcases ho2.2 with ⟨e, h0⟩ | ⟨g, cap, cur, e, _⟩
   · simp at h0
   · rw [hv2] at e
     simp at e
     omega
 subst hk2
 subst hv2
 have s0 := HS.out.s0
 have c3 := BdAt.lo HS.out.bd
 rw [hlo] at c3
 have s5 := HS.out.s5
 have HS2 := hide (HS.out.later hb2)
 have HRF := hide (refused_few s pl p2 n 1 cl c2 hn w2 HS2.out.s3)
 have HG2 : Hid (w2.heap[G]? = some (.cells #[.int .i64 0, .slice none 0 0, .slice none 0 0] 160)) := (hb2.block G hGs).trans HG.out
 have hb12 : base ≤ w1.heap.size := by omega
 have HB2 := hide (HB1.out.trans (hb2.mono hb12))
 have hG2 : G < w2.heap.size := Nat.lt_of_lt_of_le hGs hb2.size
 clear ho2 hold2 hsz2 o2 t2 u2 hb2 HS HG HB1
 go_loopg [] 0 (fun _ wr => wr = w1)
 case atStart => rfl
 case round =>
   subst hrel
   go_wp2_with (at_builtin; refine Lib.wpList_append_run _ rfl _ _ _ _ rfl _ _ rfl rfl _ _ hr2 ?_)
   refine HRF.out.mono ?_
   rintro e w3 ⟨rfl, hb3⟩
   have HG3 : Hid (w3.heap[G]? = some (.cells #[.int .i64 0, .slice none 0 0, .slice none 0 0] 160)) := (hb3.block G hG2).trans HG2.out
   have HB3 := hide (HB2.out.trans (hb3.mono (by omega)))
   have q0 : w3.cell? ⟨G, 0, none⟩ = some (.int .i64 0) := by rw [Lib.cell_of_heap HG3.out]; rfl
   have q1 : w3.cell? ⟨G, 1, none⟩ = some (.slice none 0 0) := by rw [Lib.cell_of_heap HG3.out]; rfl
   have q2 : w3.cell? ⟨G, 2, none⟩ = some (.slice none 0 0) := by rw [Lib.cell_of_heap HG3.out]; rfl
   have z0 : w3.frozen? ⟨G, 0, none⟩ = false := Lib.frozen_of_heap HG3.out 0
   have z1 : w3.frozen? ⟨G, 1, none⟩ = false := Lib.frozen_of_heap HG3.out 1
   have z2 : w3.frozen? ⟨G, 2, none⟩ = false := Lib.frozen_of_heap HG3.out 2
   have HGZ : Hid ((((w3.setCell ⟨G, 0, none⟩ (.int .i64 2)).setCell ⟨G, 1, none⟩ (.slice none 0 0)).setCell ⟨G, 2, none⟩ (.slice p2 1 c2)).heap[G]? = some (.cells #[.int .i64 2, .slice none 0 0, .slice p2 1 c2] 160)) := by
     unfold Hid
     rw [heap_setCell_same _ _ _ _ _ _ (heap_setCell_same _ _ _ _ _ _ (heap_setCell_same _ _ _ _ _ _ HG3.out))]
     rfl
   have HBZ : Hid (Below base w (((w3.setCell ⟨G, 0, none⟩ (.int .i64 2)).setCell ⟨G, 1, none⟩ (.slice none 0 0)).setCell ⟨G, 2, none⟩ (.slice p2 1 c2))) := ((HB3.out.setCell (p := ⟨G, 0, none⟩) hbs _).setCell (p := ⟨G, 1, none⟩) hbs _).setCell (p := ⟨G, 2, none⟩) hbs _
   clear hb3 HG3 HB3
   go_wp2
   try simp only [Exit.inBlock, Exit.then]
   refine bodyPost_ret (results_cell_row rfl _ _ G 160 _ _ _ rfl HGZ.out Tryz.underlying160 rfl (by kernel_rfl)) rfl ?_
   exact ⟨p2, c2, rfl, HBZ.out⟩
def SoNo (w : World) (e : Ending) (w' : World) : Prop := ∃ p c, e = .returned (.tuple #[.agg #[.int .i64 2, .slice none 0 0, .slice p 1 c], .int .i64 0]) ∧ Below w.heap.size w w'
set_option maxHeartbeats 8000000 in
theorem solve_lost (V : Nat) (hV : V ≤ 14) (p : Option Addr) (cap : Nat) (rs : List Row) (hl : rs.length + 1 ≤ 800000) (hx : ∀ r ∈ rs, r.ns.length ≤ 200 ∧ ∀ x ∈ r.ns, Num V x) (hck : chkC V (numsOf rs) = 0) (fuel : Int) (hf : 0 ≤ fuel ∧ fuel ≤ 1000000) 
   (hrun : ∀ B, Inv V (numsOf rs) (fun _ => False) B → (∃ g f, spreadN g (addAll (numsOf rs)) = some (B, f)) → B.lost = true) (w : World) (hC : ClAt w p rs) :
   Calls Tryz.prog 129 #[cval V p rs.length cap, .int .i64 fuel] w (SoNo w) := by
 have hb0 : Below w.heap.size w ((w.alloc (.cells #[.int .i64 V, .slice p rs.length cap] 30)).alloc (.cells #[.int .i64 0, .slice none 0 0, .slice none 0 0] 160)) := bal (bal (Below.refl _ _) _) _
 have HB0 := hide hb0
 have HCK := hide (checkC_any (V : Int) p cap rs (by omega) (fun r hr => by have := (hx r hr).1; unfold maxLen; omega) ((w.alloc (.cells #[.int .i64 V, .slice p rs.length cap] 30)).alloc (.cells #[.int .i64 0, .slice none 0 0, .slice none 0 0] 160)) (hC.later hb0))
 rw [hck] at HCK
 have HX := hide hx
 have HC := hide hC
 have HR := hide hrun
 have x0 : ((w.alloc (.cells #[.int .i64 V, .slice p rs.length cap] 30)).alloc (.cells #[.int .i64 0, .slice none 0 0, .slice none 0 0] 160)).cell? ⟨w.heap.size, 0, none⟩ = some (.int .i64 V) := by simp [go_sem]
 have x1 : ((w.alloc (.cells #[.int .i64 V, .slice p rs.length cap] 30)).alloc (.cells #[.int .i64 0, .slice none 0 0, .slice none 0 0] 160)).cell? ⟨w.heap.size, 1, none⟩ = some (.slice p rs.length cap) := by simp [go_sem]
 have HG : Hid (((w.alloc (.cells #[.int .i64 V, .slice p rs.length cap] 30)).alloc (.cells #[.int .i64 0, .slice none 0 0, .slice none 0 0] 160)).heap[w.heap.size + 1]? = some (.cells #[.int .i64 0, .slice none 0 0, .slice none 0 0] 160)) := by
   have := (MapKept.heap_alloc (w.alloc (.cells #[.int .i64 V, .slice p rs.length cap] 30)) (.cells #[.int .i64 0, .slice none 0 0, .slice none 0 0] 160)).1
   rw [World.size_alloc] at this
   exact this
 have hfl : decide (fuel < 0) = false := by simp; omega
 have hfg : decide (1000000 < fuel) = false := by simp; omega
 clear hx hC hrun hb0 hck
 unfold cval at *
 go_enter Tryz.func129, Tryz.ntmps129
 go_wp2_with fail
 generalize (w.alloc (.cells #[.int .i64 V, .slice p rs.length cap] 30)).alloc (.cells #[.int .i64 0, .slice none 0 0, .slice none 0 0] 160) = w1 at *
 refine HCK.out.mono ?_
 rintro e w2 ⟨rfl, hb2⟩
 have y0 := cell_later hb2 x0
 have y1 := cell_later hb2 x1
 have HG2 : Hid (w2.heap[w.heap.size + 1]? = some (.cells #[.int .i64 0, .slice none 0 0, .slice none 0 0] 160)) := (hb2.block _ (Array.getElem?_eq_some_iff.1 HG.out).1).trans HG.out
 have HB2 := hide (bthen HB0.out hb2)
 have HNS := hide (newS_any V (by omega) p cap rs (by omega) HX.out fuel ⟨by omega, by omega⟩ w2 (HC.out.later HB2.out))
 unfold cval at HNS
 clear hb2 x0 x1 HCK HG HB0
 generalize hG : w.heap.size + 1 = G at *
 go_wp2_with fail
 refine HNS.out.mono ?_
 rintro e w3 ⟨⟨s, R, nS, nW, q, gp, gw, gm, gl, vh, B, XB, XQ, rfl, hser, hinv, ⟨hlv, hsp⟩, -, -, hnS, hnW⟩, hb3⟩
 have hR := HR.out B hinv hsp
 have HRN := hide (run_lost w2.heap.size w3 s XB XQ R nS nW q gp gw gm gl vh _ _ _ _ hser hR hl)
 have hG2 : G < w2.heap.size := (Array.getElem?_eq_some_iff.1 HG2.out).1
 have HG3 : Hid (w3.heap[G]? = some (.cells #[.int .i64 0, .slice none 0 0, .slice none 0 0] 160)) := (hb3.block G hG2).trans HG2.out
 have HB3 := hide hb3
 clear hser hinv hlv hsp hb3 HNS HG2 y0 y1 hR
 go_wp2_with fail
 refine HRN.out.mono ?_
 rintro e w4 ⟨pp, pc, rfl, hb4⟩
 have HG4 : Hid (w4.heap[G]? = some (.cells #[.int .i64 0, .slice none 0 0, .slice none 0 0] 160)) := (hb4.block G hG2).trans HG3.out
 have HB4 := hide (bthen HB2.out (HB3.out.trans hb4))
 have q0 : w4.cell? ⟨G, 0, none⟩ = some (.int .i64 0) := by rw [Lib.cell_of_heap HG4.out]; rfl
 have q1 : w4.cell? ⟨G, 1, none⟩ = some (.slice none 0 0) := by rw [Lib.cell_of_heap HG4.out]; rfl
 have q2 : w4.cell? ⟨G, 2, none⟩ = some (.slice none 0 0) := by rw [Lib.cell_of_heap HG4.out]; rfl
 have z0 : w4.frozen? ⟨G, 0, none⟩ = false := Lib.frozen_of_heap HG4.out 0
 have z1 : w4.frozen? ⟨G, 1, none⟩ = false := Lib.frozen_of_heap HG4.out 1
 have z2 : w4.frozen? ⟨G, 2, none⟩ = false := Lib.frozen_of_heap HG4.out 2
 have HGZ : Hid ((((w4.setCell ⟨G, 0, none⟩ (.int .i64 2)).setCell ⟨G, 1, none⟩ (.slice none 0 0)).setCell ⟨G, 2, none⟩ (.slice pp 1 pc)).heap[G]? = some (.cells #[.int .i64 2, .slice none 0 0, .slice pp 1 pc] 160)) := by
   unfold Hid
   rw [heap_setCell_same _ _ _ _ _ _ (heap_setCell_same _ _ _ _ _ _ (heap_setCell_same _ _ _ _ _ _ HG4.out))]
   rfl
 have HBZ : Hid (Below w.heap.size w (((w4.setCell ⟨G, 0, none⟩ (.int .i64 2)).setCell ⟨G, 1, none⟩ (.slice none 0 0)).setCell ⟨G, 2, none⟩ (.slice pp 1 pc))) := ((HB4.out.setCell (p := ⟨G, 0, none⟩) (show w.heap.size ≤ G by omega) _).setCell (p := ⟨G, 1, none⟩) (show w.heap.size ≤ G by omega) _).setCell (p := ⟨G, 2, none⟩) (show w.heap.size ≤ G by omega) _
 clear hb4 HRN HG3 HG4 HB2 HB3 HB4
 go_wp2
 try simp only [Exit.inBlock, Exit.then]
 refine bodyPost_ret ((results_cell_tmp rfl _ _ _).trans (?_ : _ = Result.ok (.tuple #[.agg #[.int .i64 2, .slice none 0 0, .slice pp 1 pc], .int .i64 0]) _)) rfl ⟨pp, pc, rfl, HBZ.out⟩
 have hld := run_loadVar_row (P := Tryz.prog) _ G 160 160 _ _ _ HGZ.out Tryz.underlying160 rfl (by kernel_rfl)
 generalize ((w4.setCell ⟨G, 0, none⟩ (.int .i64 2)).setCell ⟨G, 1, none⟩ (.slice none 0 0)).setCell ⟨G, 2, none⟩ (.slice pp 1 pc) = w5 at *
 simp [asAddr, hld, Result.andThen]
end Go.Proofs.YtjhkecnnhddhbaaGreatDoor.Sr

namespace Go.Proofs.YtjhkecnnhddhbaaGreatDoor.Sr
open Go.Proofs.YtjhkecnnhddhbaaGreatDoor.Pf
set_option maxRecDepth 100000
def u0 : List (List Int) := [[-1], [1]]
def u1 : List (List Int) := [[-2, -1], [2, 1], [-1], [2]]
def u2 : List (List Int) := [[-2, -1], [2, 1], [2], [-1], [-3, 1, 2], [-3, -1, -2], [3]]
theorem s1 (x : Int) : ([x] : List Int).mergeSort (fun x y => decide (x ≤ y)) = [x] := by simp
theorem s2 : ([-2, -1] : List Int).mergeSort (fun x y => decide (x ≤ y)) = [-2, -1] := by simp [List.mergeSort, List.MergeSort.Internal.splitInTwo]
theorem s3 : ([2, 1] : List Int).mergeSort (fun x y => decide (x ≤ y)) = [1, 2] := by simp [List.mergeSort, List.MergeSort.Internal.splitInTwo]
theorem s4 : ([-3, 1, 2] : List Int).mergeSort (fun x y => decide (x ≤ y)) = [-3, 1, 2] := by simp [List.mergeSort, List.MergeSort.Internal.splitInTwo]
theorem s5 : ([-3, -1, -2] : List Int).mergeSort (fun x y => decide (x ≤ y)) = [-3, -2, -1] := by simp [List.mergeSort, List.MergeSort.Internal.splitInTwo]
def A1 : Bd := Bd.nil.add [-1]
def A2 : Bd := A1.add [1]
theorem addU0 : addAll u0 = A2 := by
 have e0 : Bd.nil.st = [] := rfl
 have e1 : (Bd.nil.add [-1]).st = [-1] := by decide +kernel
 have l0 : layD [] [-1] = [-1] := by unfold layD sortC; rw [s1]; rfl
 have l1 : layD [-1] [1] = [1] := by unfold layD sortC; rw [s1]; rfl
 unfold addAll u0 A2 A1
 simp only [List.foldl_cons, List.foldl_nil]
 rw [e0, l0, e1, l1]
theorem lostU0 {B : Bd} (h : ∃ g f, spreadN g (addAll u0) = some (B, f)) : B.lost = true := by
 obtain ⟨g, f, h⟩ := h
 rw [addU0] at h
 have h2 : ((spreadN 5 A2).map fun r => r.1.lost) = some true := by decide +kernel
 cases h3 : spreadN 5 A2 with
 | none => rw [h3] at h2; cases h2
 | some r =>
   rw [h3] at h2
   have := spread_one h h3
   subst this
   simpa using h2
def D2 : Bd := (Bd.nil.add [-2, -1]).add [1, 2]
def D4 : Bd := (D2.add [-1]).add [2]
def D5 : Bd := ((spreadN 5 D4).getD (D4, 0)).1
theorem lay2 : layD [] [-2, -1] = [-2, -1] := by unfold layD sortC; rw [s2]; rfl
theorem lay3 : layD [] [2, 1] = [1, 2] := by unfold layD sortC; rw [s3]; rfl
theorem addU1 : addAll u1 = D4 := by
 have e0 : Bd.nil.st = [] := rfl
 have e1 : (Bd.nil.add [-2, -1]).st = [] := by decide +kernel
 have e2 : ((Bd.nil.add [-2, -1]).add [1, 2]).st = [] := by decide +kernel
 have e3 : (((Bd.nil.add [-2, -1]).add [1, 2]).add [-1]).st = [-1] := by decide +kernel
 have l2 : layD [] [-1] = [-1] := by unfold layD sortC; rw [s1]; rfl
 have l3 : layD [-1] [2] = [2] := by unfold layD sortC; rw [s1]; rfl
 unfold addAll u1 D4 D2
 simp only [List.foldl_cons, List.foldl_nil]
 rw [e0, lay2, e1, lay3, e2, l2, e3, l3]
theorem of_map {B0 : Bd} {g : Nat} (h : ((spreadN g B0).map fun r => r.2) = some (-1)) : spreadN g B0 = some (((spreadN g B0).getD (B0, 0)).1, -1) := by
 generalize spreadN g B0 = o at *
 cases o with
 | none => cases h
 | some r =>
   obtain ⟨B, f⟩ := r
   simp only [Option.map_some, Option.some.injEq] at h
   subst h
   rfl
theorem sprD4 : spreadN 5 D4 = some (D5, -1) := of_map (by decide +kernel)
theorem sprD5 : spreadN 1 D5 = some (D5, -1) := by rw [spreadN, if_neg (by decide +kernel)]
def Sd : Sx := newSx 2 D5 100000
def Sd' : Sx := (Sx.choose { Sd with B := D5 }).1
theorem runU1 {B : Bd} (h : Inv 2 u1 (fun _ => False) B) (hs : ∃ g f, spreadN g (addAll u1) = some (B, f)) : Run 2 3 0 true u1 (fun _ => False) (newSx 2 B 100000) Sd' := by
 obtain ⟨g, f, hs⟩ := hs
 rw [addU1] at hs
 have := spread_one hs sprD4
 injection this with e _
 subst e
 exact Run.ends (B' := D5) (g := 1) ⟨h, by decide +kernel, by decide, by decide +kernel, by decide +kernel⟩ sprD5 (chOk_of (by decide +kernel)) (Prod.ext rfl (by decide +kernel)) (by decide +kernel)
theorem valU1 : valN Sd'.B Sd'.V Sd'.V = [false, true] := by decide +kernel
def E4 : Bd := (D2.add [2]).add [-1]
def E6 : Bd := (E4.add [-3, 2, 1]).add [-3, -1, -2]
def E7 : Bd := E6.add [3]
def E8 : Bd := ((spreadN 5 E7).getD (E7, 0)).1
theorem addU2 : addAll u2 = E7 := by
 have e0 : Bd.nil.st = [] := rfl
 have e1 : (Bd.nil.add [-2, -1]).st = [] := by decide +kernel
 have e2 : ((Bd.nil.add [-2, -1]).add [1, 2]).st = [] := by decide +kernel
 have e3 : (((Bd.nil.add [-2, -1]).add [1, 2]).add [2]).st = [2] := by decide +kernel
 have e4 : ((((Bd.nil.add [-2, -1]).add [1, 2]).add [2]).add [-1]).st = [2, -1] := by decide +kernel
 have e5 : (((((Bd.nil.add [-2, -1]).add [1, 2]).add [2]).add [-1]).add [-3, 2, 1]).st = [2, -1] := by decide +kernel
 have e6 : ((((((Bd.nil.add [-2, -1]).add [1, 2]).add [2]).add [-1]).add [-3, 2, 1]).add [-3, -1, -2]).st = [2, -1] := by decide +kernel
 have l2 : layD [] [2] = [2] := by unfold layD sortC; rw [s1]; rfl
 have l3 : layD [2] [-1] = [-1] := by unfold layD sortC; rw [s1]; rfl
 have l4 : layD [2, -1] [-3, 1, 2] = [-3, 2, 1] := by unfold layD sortC; rw [s4]; rfl
 have l5 : layD [2, -1] [-3, -1, -2] = [-3, -1, -2] := by unfold layD sortC; rw [s5]; rfl
 have l6 : layD [2, -1] [3] = [3] := by unfold layD sortC; rw [s1]; rfl
 unfold addAll u2 E7 E6 E4 D2
 simp only [List.foldl_cons, List.foldl_nil]
 rw [e0, lay2, e1, lay3, e2, l2, e3, l3, e4, l4, e5, l5, e6, l6]
theorem sprE7 : spreadN 5 E7 = some (E8, -1) := of_map (by decide +kernel)
theorem sprE8 : spreadN 1 E8 = some (E8, -1) := by rw [spreadN, if_neg (by decide +kernel)]
def Se : Sx := newSx 3 E8 12500
def Se' : Sx := (Sx.choose { Se with B := E8 }).1
theorem runU2 {B : Bd} (h : Inv 3 u2 (fun _ => False) B) (hs : ∃ g f, spreadN g (addAll u2) = some (B, f)) : Run 3 4 0 true u2 (fun _ => False) (newSx 3 B 12500) Se' := by
 obtain ⟨g, f, hs⟩ := hs
 rw [addU2] at hs
 have := spread_one hs sprE7
 injection this with e _
 subst e
 exact Run.ends (B' := E8) (g := 1) ⟨h, by decide +kernel, by decide, by decide +kernel, by decide +kernel⟩ sprE8 (chOk_of (by decide +kernel)) (Prod.ext rfl (by decide +kernel)) (by decide +kernel)
end Go.Proofs.YtjhkecnnhddhbaaGreatDoor.Sr

namespace Go.Proofs.YtjhkecnnhddhbaaGreatDoor.Sr
open Go.RowKit Go.Maps Go.Proofs.YtjhkecnnhddhbaaGreatDoor.Pf
set_option maxRecDepth 100000
def HvOut (w : World) (v : Int) (Pv : Option Addr → Nat → Nat → World → Prop) (e : Ending) (w' : World) : Prop := ∃ q n c, e = .returned (.tuple #[.int .i64 v, .slice q n c]) ∧ Pv q n c w' ∧ Below w.heap.size w w'
def SvOut (w : World) (v : Int) (Pv : Option Addr → Nat → Nat → World → Prop) (e : Ending) (w' : World) : Prop := ∃ q n c pr pn pc, e = .returned (.tuple #[.agg #[.int .i64 v, .slice q n c, .slice pr pn pc], .int .i64 0]) ∧ Pv q n c w' ∧ Below w.heap.size w w'
set_option maxHeartbeats 4000000 in
theorem halve_none (V : Int) (p : Option Addr) (n cap : Nat) (fuel v : Int) (Pv : Option Addr → Nat → Nat → World → Prop) (hP : ∀ q k c w w', Pv q k c w → Below w.heap.size w w' → Pv q k c w') (w : World)
   (hS : ∀ W, Below w.heap.size w W → Calls Tryz.prog 129 #[.agg #[.int .i64 V, .slice p n cap], .int .i64 fuel] W (SvOut W v Pv)) :
   Calls Tryz.prog 103 #[.agg #[.int .i64 V, .slice p n cap], .slice none 0 0, .int .i64 fuel] w (HvOut w v Pv) := by
 have hb1 : Below w.heap.size w (w.alloc (.cells #[.int .i64 V, .slice p n cap] 30)) := bal (Below.refl _ _) _
 have HSO := hide (hS _ hb1)
 have HB1 := hide hb1
 have HP := hide hP
 clear hS hb1 hP
 go_enter Tryz.func103, Tryz.ntmps103
 go_wp2_with fail
 generalize w.alloc (.cells #[.int .i64 V, .slice p n cap] 30) = w1 at *
 refine HSO.out.mono ?_
 rintro e w2 ⟨q, k, c, pr, pn, pc, rfl, hpv, hb2⟩
 have HPV := hide hpv
 have HB2 := hide (bthen HB1.out hb2)
 clear hpv hb2 HSO HB1
 have hb3 : Below w2.heap.size w2 (w2.alloc (.cells #[.int .i64 v, .slice q k c, .slice pr pn pc] 160)) := bal (Below.refl _ _) _
 have a0 : (w2.alloc (.cells #[.int .i64 v, .slice q k c, .slice pr pn pc] 160)).cell? ⟨w2.heap.size, 0, none⟩ = some (.int .i64 v) := by simp [go_sem]
 have a1 : (w2.alloc (.cells #[.int .i64 v, .slice q k c, .slice pr pn pc] 160)).cell? ⟨w2.heap.size, 1, none⟩ = some (.slice q k c) := by simp [go_sem]
 have HB3 := hide (bthen HB2.out hb3)
 have HPV3 := hide (HP.out _ _ _ _ _ HPV.out hb3)
 clear hb3
 by_cases hv : v = 3
 · subst hv
   go_wp2_with fail
   go_quiet (fail)
   rename_i hK
   refine hK _ _ ?_
   clear hK
   go_wp2
   go_ret2
   exact ⟨q, k, c, rfl, HP.out _ _ _ _ _ HPV3.out (below_drewN (Below.refl _ _) _), below_drewN HB3.out _⟩
 · have hvn : (v != 3) = true := by simpa using hv
   go_wp2_with fail
   go_quiet (fail)
   rename_i hK
   refine hK _ _ ?_
   clear hK
   go_wp2
   go_ret2
   exact ⟨q, k, c, rfl, HP.out _ _ _ _ _ HPV3.out (below_drewN (Below.refl _ _) _), below_drewN HB3.out _⟩
end Go.Proofs.YtjhkecnnhddhbaaGreatDoor.Sr

namespace Go.Proofs.YtjhkecnnhddhbaaGreatDoor.Sr
open Go.RowKit Go.Maps Go.Proofs.YtjhkecnnhddhbaaGreatDoor.Pf
set_option maxRecDepth 100000
def cir0 (ins : Int) (va : Value) (st : Nat) (v4 v5 v6 v7 : Value) : Value := .agg #[.int .i64 ins, va, .int .i64 0, .int .i64 st, v4, v5, v6, v7]
def ChOu (w : World) (e : Ending) (w' : World) : Prop := ∃ p n c, e = .returned (.slice p n c) ∧ Below w.heap.size w w'
set_option maxHeartbeats 4000000 in
theorem choices0 (ins : Int) (va : Value) (st : Nat) (hst : st ≤ 900) (v4 v5 v6 v7 : Value) (steps : Nat) (hs : steps ≤ 40) (w : World) :
   Calls Tryz.prog 102 #[cir0 ins va st v4 v5 v6 v7, .int .i64 steps] w (ChOu w) := by
 have hb1 : Below w.heap.size w (w.alloc (.cells #[.int .i64 ins, va, .int .i64 0, .int .i64 st, v4, v5, v6, v7] 27)) := bal (Below.refl _ _) _
 have x2 : (w.alloc (.cells #[.int .i64 ins, va, .int .i64 0, .int .i64 st, v4, v5, v6, v7] 27)).cell? ⟨w.heap.size, 2, none⟩ = some (.int .i64 0) := by simp [go_sem]
 have x3 : (w.alloc (.cells #[.int .i64 ins, va, .int .i64 0, .int .i64 st, v4, v5, v6, v7] 27)).cell? ⟨w.heap.size, 3, none⟩ = some (.int .i64 st) := by simp [go_sem]
 have HB1 := hide hb1
 have hsz : w.heap.size < (w.alloc (.cells #[.int .i64 ins, va, .int .i64 0, .int .i64 st, v4, v5, v6, v7] 27)).heap.size := by simp
 clear hb1
 unfold cir0
 go_enter Tryz.func102, Tryz.ntmps102
 go_wp2_with fail
 generalize w.alloc (.cells #[.int .i64 ins, va, .int .i64 0, .int .i64 st, v4, v5, v6, v7] 27) = w1 at *
 go_loopw [5, 11] (fun vl vi wr => ∃ k : Nat, k ≤ st ∧ vi = .int .i64 k ∧ Hid ((∃ l : List Int, l.length = k ∧ wr.ownsRow 0 3 1 vl l.length (l.map (Value.int .i64)) ∧ ∀ g, vl.ownBlock = some g → w1.heap.size ≤ g) ∧ Below w1.heap.size w1 wr)) (fun _ vi _ => st - (intOf vi).toNat)
 case atStart => exact ⟨0, Nat.zero_le _, rfl, ⟨[], rfl, row_nil _ _ _ _, fun g hg => by cases hg⟩, Below.refl _ _⟩
 case round =>
   obtain ⟨k, hk, rfl, HJ⟩ := hrel
   obtain ⟨⟨l, hl, hrow, hown⟩, hbr⟩ := HJ.out
   subst hl
   by_cases hlt : l.length < st
   · have hlti : (l.length : Int) < (st : Int) := by omega
     have y2 := cell_later hbr x2
     obtain ⟨vo1, w2, hr2, ⟨p2, c2, hv2⟩, ho2, hnew2, hold2, hsz2, o2, t2, u2⟩ := own_append hrow (1 + (l.length : Int)) (by omega) 25
     obtain ⟨p0, c0, hv0⟩ : ∃ p0 c0, u5 = .slice p0 l.length c0 := by
       rcases hrow.2 with ⟨e, h0⟩ | ⟨g, cap, cur, e, _⟩
       · exact ⟨none, 0, by rw [e, h0]⟩
       · exact ⟨_, _, e⟩
     have HNX : Hid ((∃ l' : List Int, l'.length = l.length + 1 ∧ w2.ownsRow 0 3 1 vo1 l'.length (l'.map (Value.int .i64)) ∧ ∀ g, vo1.ownBlock = some g → w1.heap.size ≤ g) ∧ Below w1.heap.size w1 w2) := by
       refine ⟨⟨l ++ [1 + (l.length : Int)], by simp, ho2, fun g hg => ?_⟩, hbr.trans ⟨o2, t2, u2, hsz2, fun g hg => hold2 g (by have := hbr.size; omega) fun e => by have := hown g e; omega⟩⟩
       rcases hnew2 g hg with e | e
       · exact hown g e
       · have := hbr.size; omega
     have ww := wrap_in (1 + (l.length : Int)) (by omega) (by omega)
     subst hv0
     subst hv2
     clear hrow hown ho2 hnew2 hold2 hsz2 o2 t2 u2 HJ
     go_wp2_with (at_builtin; refine Lib.wpList_append_run _ rfl _ _ _ _ rfl _ _ rfl rfl _ _ hr2 ?_)
     go_roundw
     case rel => exact ⟨l.length + 1, hlt, by go_num, HNX⟩
     case measure => simp [intOf]; omega
   · have hlti : ¬ (l.length : Int) < (st : Int) := by omega
     have y2 := cell_later hbr x2
     obtain ⟨p0, c0, hv0⟩ : ∃ p0 c0, u5 = .slice p0 l.length c0 := by
       rcases hrow.2 with ⟨e, h0⟩ | ⟨g, cap, cur, e, _⟩
       · exact ⟨none, 0, by rw [e, h0]⟩
       · exact ⟨_, _, e⟩
     have HBR := hide (bthen HB1.out hbr)
     have ww := wrap_in ((steps : Int) + 1) (by omega) (by omega)
     subst hv0
     clear hrow hown HJ hbr
     go_wp2_with fail
     go_loopw [5, 25] (fun vl vi w3 => ∃ j : Nat, j ≤ steps + 1 ∧ vi = .int .i64 j ∧ vl = .slice p0 l.length c0 ∧ w3 = wr) (fun _ vi _ => steps + 1 - (intOf vi).toNat)
     case atStart => exact ⟨0, Nat.zero_le _, rfl, rfl, rfl⟩
     case round =>
       obtain ⟨j, hj, rfl, rfl, rfl⟩ := hrel
       by_cases hjl : j < steps + 1
       · have hji : (j : Int) < (steps : Int) + 1 := by omega
         go_wp2_with fail
         go_loopg [5, 30] 0 (fun _ vl v30 w3 => vl = .slice p0 l.length c0 ∧ v30 = .int .i64 0 ∧ w3 = wr)
         case atStart => exact ⟨rfl, rfl, rfl⟩
         case round =>
           obtain ⟨rfl, rfl, rfl⟩ := hrel
           go_wp2
           go_roundw
           case rel => exact ⟨j + 1, by omega, by go_num, rfl, trivial⟩
           case measure => simp [intOf]; omega
       · have hji : ¬ (j : Int) < (steps : Int) + 1 := by omega
         go_wp2
         go_ret
         exact ⟨_, _, _, rfl, HBR.out⟩
set_option maxHeartbeats 4000000 in
theorem settle0 (ins : Int) (va : Value) (st : Nat) (hst : st ≤ 900) (v4 v5 v6 v7 : Value) (steps : Nat) (hs : steps ≤ 40) (V : Int) (p : Option Addr) (n cap : Nat) (fuel v : Int) (hf : fuel < 1000000) (Pv : Option Addr → Nat → Nat → World → Prop) (hP : ∀ q k c w w', Pv q k c w → Below w.heap.size w w' → Pv q k c w') (w : World)
   (hS : ∀ W, Below w.heap.size w W → Calls Tryz.prog 129 #[.agg #[.int .i64 V, .slice p n cap], .int .i64 fuel] W (SvOut W v Pv)) :
   Calls Tryz.prog 81 #[cir0 ins va st v4 v5 v6 v7, .int .i64 steps, .agg #[.int .i64 V, .slice p n cap], .int .i64 fuel] w (HvOut w v Pv) := by
 have hb1 : Below w.heap.size w ((w.alloc (.cells #[.int .i64 ins, va, .int .i64 0, .int .i64 st, v4, v5, v6, v7] 27)).alloc (.cells #[.int .i64 V, .slice p n cap] 30)) := bal (bal (Below.refl _ _) _) _
 have HCH := hide (choices0 ins va st hst v4 v5 v6 v7 steps hs ((w.alloc (.cells #[.int .i64 ins, va, .int .i64 0, .int .i64 st, v4, v5, v6, v7] 27)).alloc (.cells #[.int .i64 V, .slice p n cap] 30)))
 have x0 : ((w.alloc (.cells #[.int .i64 ins, va, .int .i64 0, .int .i64 st, v4, v5, v6, v7] 27)).alloc (.cells #[.int .i64 V, .slice p n cap] 30)).cell? ⟨w.heap.size + 1, 0, none⟩ = some (.int .i64 V) := by simp [go_sem]
 have x1 : ((w.alloc (.cells #[.int .i64 ins, va, .int .i64 0, .int .i64 st, v4, v5, v6, v7] 27)).alloc (.cells #[.int .i64 V, .slice p n cap] 30)).cell? ⟨w.heap.size + 1, 1, none⟩ = some (.slice p n cap) := by simp [go_sem]
 have hfl : decide (fuel < 1000000) = true := decide_eq_true hf
 have HB1 := hide hb1
 have HS := hide hS
 have HP := hide hP
 clear hS hb1 hP
 unfold cir0 at *
 go_enter Tryz.func81, Tryz.ntmps81
 go_wp2_with fail
 generalize (w.alloc (.cells #[.int .i64 ins, va, .int .i64 0, .int .i64 st, v4, v5, v6, v7] 27)).alloc (.cells #[.int .i64 V, .slice p n cap] 30) = w1 at *
 refine HCH.out.mono ?_
 rintro e w2 ⟨pc, nc, cc, rfl, hb2⟩
 have y0 := cell_later hb2 x0
 have y1 := cell_later hb2 x1
 have HB2 := hide (bthen HB1.out hb2)
 have HHV := hide (halve_none V p n cap fuel v Pv HP.out w2 (fun W hb => HS.out W (bthen HB2.out hb)))
 clear hb2 x0 x1 HCH HB1
 go_wp2_with fail
 refine HHV.out.mono ?_
 rintro e w3 ⟨q, k, c, rfl, hpv, hb3⟩
 have HPV := hide hpv
 have HB3 := hide (bthen HB2.out hb3)
 clear hpv hb3 HHV y0 y1 HB2
 go_wp2
 go_ret2
 exact ⟨q, k, c, rfl, HPV.out, HB3.out⟩
end Go.Proofs.YtjhkecnnhddhbaaGreatDoor.Sr

namespace Go.Proofs.YtjhkecnnhddhbaaGreatDoor.Sr
open Go.RowKit Go.Maps Go.Proofs.YtjhkecnnhddhbaaGreatDoor.Pf
set_option maxRecDepth 100000
def ClOut (w : World) (V : Int) (L : List (List Int)) (e : Ending) (w' : World) : Prop := ∃ p cap rs, e = .returned (.tuple #[.agg #[.int .i64 V, .slice p (List.length rs) cap], .int .i64 0]) ∧ ClAt w' p rs ∧ numsOf rs = L ∧ Below w.heap.size w w'
set_option maxHeartbeats 4000000 in
theorem reach0 (ins : Int) (va : Value) (st : Nat) (hst : st ≤ 900) (v4 v5 v6 v7 : Value) (steps : Nat) (hs : steps ≤ 40) (V : Int) (L : List (List Int)) (fuel v : Int) (hf : fuel < 1000000) (Pv : Option Addr → Nat → Nat → World → Prop) (hP : ∀ q k c w w', Pv q k c w → Below w.heap.size w w' → Pv q k c w') (w : World)
   (hC : ∀ W, Below w.heap.size w W → Calls Tryz.prog 4 #[cir0 ins va st v4 v5 v6 v7, .int .i64 steps, .bool true] W (ClOut W V L))
   (hS : ∀ p cap rs W, ClAt W p rs → numsOf rs = L → Calls Tryz.prog 129 #[.agg #[.int .i64 V, .slice p (List.length rs) cap], .int .i64 fuel] W (SvOut W v Pv)) :
   Calls Tryz.prog 58 #[cir0 ins va st v4 v5 v6 v7, .int .i64 steps, .int .i64 fuel] w (HvOut w v Pv) := by
 have hb1 : Below w.heap.size w (w.alloc (.cells #[.int .i64 ins, va, .int .i64 0, .int .i64 st, v4, v5, v6, v7] 27)) := bal (Below.refl _ _) _
 have HG : Hid ((w.alloc (.cells #[.int .i64 ins, va, .int .i64 0, .int .i64 st, v4, v5, v6, v7] 27)).heap[w.heap.size]? = some (.cells #[.int .i64 ins, va, .int .i64 0, .int .i64 st, v4, v5, v6, v7] 27)) := (MapKept.heap_alloc w _).1
 have HCL := hide (hC _ hb1)
 have HS := hide hS
 have HP := hide hP
 have HB1 := hide hb1
 clear hC hS hP hb1
 unfold cir0 at *
 go_enter Tryz.func58, Tryz.ntmps58
 go_wp2_with fail
 generalize w.alloc (.cells #[.int .i64 ins, va, .int .i64 0, .int .i64 st, v4, v5, v6, v7] 27) = w1 at *
 refine HCL.out.mono ?_
 rintro e w2 ⟨p, cap, rs, rfl, hcl, hL, hb2⟩
 have HG2 : Hid (w2.heap[w.heap.size]? = some (.cells #[.int .i64 ins, va, .int .i64 0, .int .i64 st, v4, v5, v6, v7] 27)) := (hb2.block _ (Array.getElem?_eq_some_iff.1 HG.out).1).trans HG.out
 have HB2 := hide (bthen HB1.out hb2)
 have hb3 : Below w2.heap.size w2 (w2.alloc (.cells #[.int .i64 V, .slice p rs.length cap] 30)) := bal (Below.refl _ _) _
 have HST := hide (settle0 ins va st hst v4 v5 v6 v7 steps hs V p rs.length cap fuel v hf Pv HP.out _ (fun W hb => HS.out p cap rs W ((hcl.later hb3).later hb) hL))
 unfold cir0 at HST
 have HG3 := hide ((hb3.block _ (Array.getElem?_eq_some_iff.1 HG2.out).1).trans HG2.out)
 have HB3 := hide (bthen HB2.out hb3)
 have k0 : (w2.alloc (.cells #[.int .i64 V, .slice p rs.length cap] 30)).cell? ⟨w.heap.size, 0, none⟩ = some (.int .i64 ins) := by rw [Lib.cell_of_heap HG3.out]; rfl
 have k1 : (w2.alloc (.cells #[.int .i64 V, .slice p rs.length cap] 30)).cell? ⟨w.heap.size, 1, none⟩ = some (va) := by rw [Lib.cell_of_heap HG3.out]; rfl
 have k2 : (w2.alloc (.cells #[.int .i64 V, .slice p rs.length cap] 30)).cell? ⟨w.heap.size, 2, none⟩ = some (.int .i64 0) := by rw [Lib.cell_of_heap HG3.out]; rfl
 have k3 : (w2.alloc (.cells #[.int .i64 V, .slice p rs.length cap] 30)).cell? ⟨w.heap.size, 3, none⟩ = some (.int .i64 st) := by rw [Lib.cell_of_heap HG3.out]; rfl
 have k4 : (w2.alloc (.cells #[.int .i64 V, .slice p rs.length cap] 30)).cell? ⟨w.heap.size, 4, none⟩ = some (v4) := by rw [Lib.cell_of_heap HG3.out]; rfl
 have k5 : (w2.alloc (.cells #[.int .i64 V, .slice p rs.length cap] 30)).cell? ⟨w.heap.size, 5, none⟩ = some (v5) := by rw [Lib.cell_of_heap HG3.out]; rfl
 have k6 : (w2.alloc (.cells #[.int .i64 V, .slice p rs.length cap] 30)).cell? ⟨w.heap.size, 6, none⟩ = some (v6) := by rw [Lib.cell_of_heap HG3.out]; rfl
 have k7 : (w2.alloc (.cells #[.int .i64 V, .slice p rs.length cap] 30)).cell? ⟨w.heap.size, 7, none⟩ = some (v7) := by rw [Lib.cell_of_heap HG3.out]; rfl
 clear hcl hL hb2 hb3 HCL HG HB1
 go_wp2_with fail
 generalize w2.alloc (.cells #[.int .i64 V, .slice p rs.length cap] 30) = w3 at *
 refine HST.out.mono ?_
 rintro e w4 ⟨q, k, c, rfl, hpv, hb4⟩
 have HPV := hide hpv
 have HB4 := hide (bthen HB3.out hb4)
 clear hpv hb4 HST k0 k1 k2 k3 k4 k5 k6 k7 HG2 HG3 HB2 HB3
 go_wp2
 go_ret2
 exact ⟨q, k, c, rfl, HPV.out, HB4.out⟩
end Go.Proofs.YtjhkecnnhddhbaaGreatDoor.Sr

namespace Go.Proofs.YtjhkecnnhddhbaaGreatDoor.Sr
open Go.RowKit Go.Maps Go.Proofs.YtjhkecnnhddhbaaGreatDoor.Pf
set_option maxRecDepth 100000
set_option maxHeartbeats 4000000 in
theorem ones64_0 (w : World) : Calls Tryz.prog 99 #[.int .u64 0] w fun e w' => e = .returned (.int .i64 0) ∧ w' = w := by
 go_enter Tryz.func99, Tryz.ntmps99
 go_wp2
 go_ret
 exact ⟨by kernel_rfl, rfl⟩
set_option maxHeartbeats 4000000 in
theorem ones64_1 (w : World) : Calls Tryz.prog 99 #[.int .u64 1] w fun e w' => e = .returned (.int .i64 1) ∧ w' = w := by
 go_enter Tryz.func99, Tryz.ntmps99
 go_wp2
 go_ret
 exact ⟨by kernel_rfl, rfl⟩
set_option maxHeartbeats 4000000 in
theorem ones_0 (w : World) : Calls Tryz.prog 79 #[.int .u64 0] w fun e w' => e = .returned (.int .i64 0) ∧ w' = w := by
 go_enter Tryz.func79, Tryz.ntmps79
 go_wp2_with fail
 refine (ones64_0 w).mono ?_
 rintro e w2 ⟨rfl, rfl⟩
 go_wp2
 go_ret
 exact ⟨rfl, rfl⟩
set_option maxHeartbeats 4000000 in
theorem ones_1 (w : World) : Calls Tryz.prog 79 #[.int .u64 1] w fun e w' => e = .returned (.int .i64 1) ∧ w' = w := by
 go_enter Tryz.func79, Tryz.ntmps79
 go_wp2_with fail
 refine (ones64_1 w).mono ?_
 rintro e w2 ⟨rfl, rfl⟩
 go_wp2
 go_ret
 exact ⟨rfl, rfl⟩
def ApOut (w : World) (v : Int) (e : Ending) (w' : World) : Prop := e = .returned (.int .i64 v) ∧ Below w.heap.size w w'
set_option maxHeartbeats 4000000 in
theorem approach1 (ins : Int) (va : Value) (v4 v5 v6 v7 : Value) (V : Int) (L : List (List Int)) (fuel v : Int) (hf : fuel < 1000000) (w : World)
   (hC : ∀ W, Below w.heap.size w W → Calls Tryz.prog 101 #[cir0 ins va 1 v4 v5 v6 v7, .int .i64 1] W (ClOut W V L))
   (hS : ∀ p cap rs W, ClAt W p rs → numsOf rs = L → Calls Tryz.prog 129 #[.agg #[.int .i64 V, .slice p (List.length rs) cap], .int .i64 fuel] W (SvOut W v (fun _ _ _ _ => True))) :
   Calls Tryz.prog 80 #[cir0 ins va 1 v4 v5 v6 v7, .int .i64 1, .int .i64 fuel] w (ApOut w v) := by
 have hb1 : Below w.heap.size w (w.alloc (.cells #[.int .i64 ins, va, .int .i64 0, .int .i64 (1 : Nat), v4, v5, v6, v7] 27)) := bal (Below.refl _ _) _
 have HG : Hid ((w.alloc (.cells #[.int .i64 ins, va, .int .i64 0, .int .i64 (1 : Nat), v4, v5, v6, v7] 27)).heap[w.heap.size]? = some (.cells #[.int .i64 ins, va, .int .i64 0, .int .i64 (1 : Nat), v4, v5, v6, v7] 27)) := (MapKept.heap_alloc w _).1
 have x3 : (w.alloc (.cells #[.int .i64 ins, va, .int .i64 0, .int .i64 (1 : Nat), v4, v5, v6, v7] 27)).cell? ⟨w.heap.size, 3, none⟩ = some (.int .i64 1) := by simp [go_sem]
 have HC := hide hC
 have HS := hide hS
 have HB1 := hide hb1
 clear hC hS hb1
 unfold cir0 at *
 go_enter Tryz.func80, Tryz.ntmps80
 go_wp2_with fail
 go_quiet ((go_at_call 100; refine Calls.quiet_of_same (Tryz.bits_Len 1 _ (by decide) (by decide))))
 rename_i hK
 refine hK _ _ ?_
 clear hK
 have HG2 : Hid (((w.alloc (.cells #[.int .i64 ins, va, .int .i64 0, .int .i64 1, v4, v5, v6, v7] 27)).drewN nq).heap[w.heap.size]? = some (.cells #[.int .i64 ins, va, .int .i64 0, .int .i64 1, v4, v5, v6, v7] 27)) := HG.out
 have HB2 : Hid (Below w.heap.size w ((w.alloc (.cells #[.int .i64 ins, va, .int .i64 0, .int .i64 1, v4, v5, v6, v7] 27)).drewN nq)) := below_drewN HB1.out nq
 clear HG HB1 x3
 generalize (w.alloc (.cells #[.int .i64 ins, va, .int .i64 0, .int .i64 1, v4, v5, v6, v7] 27)).drewN nq = w2 at *
 have hbl : decide ((1 : Int) < (Lib.bitLen (1 : Int).toNat : Int)) = false := by decide +kernel
 have j0 : w2.cell? ⟨w.heap.size, 0, none⟩ = some (.int .i64 ins) := by rw [Lib.cell_of_heap HG2.out]; rfl
 have j1 : w2.cell? ⟨w.heap.size, 1, none⟩ = some (va) := by rw [Lib.cell_of_heap HG2.out]; rfl
 have j2 : w2.cell? ⟨w.heap.size, 2, none⟩ = some (.int .i64 0) := by rw [Lib.cell_of_heap HG2.out]; rfl
 have j3 : w2.cell? ⟨w.heap.size, 3, none⟩ = some (.int .i64 1) := by rw [Lib.cell_of_heap HG2.out]; rfl
 have j4 : w2.cell? ⟨w.heap.size, 4, none⟩ = some (v4) := by rw [Lib.cell_of_heap HG2.out]; rfl
 have j5 : w2.cell? ⟨w.heap.size, 5, none⟩ = some (v5) := by rw [Lib.cell_of_heap HG2.out]; rfl
 have j6 : w2.cell? ⟨w.heap.size, 6, none⟩ = some (v6) := by rw [Lib.cell_of_heap HG2.out]; rfl
 have j7 : w2.cell? ⟨w.heap.size, 7, none⟩ = some (v7) := by rw [Lib.cell_of_heap HG2.out]; rfl
 have HCL := hide (HC.out w2 HB2.out)
 go_wp2_with fail
 refine HCL.out.mono ?_
 rintro e w3 ⟨p, cap, rs, rfl, hcl, hL, hb3⟩
 have HG3 : Hid (w3.heap[w.heap.size]? = some (.cells #[.int .i64 ins, va, .int .i64 0, .int .i64 1, v4, v5, v6, v7] 27)) := (hb3.block _ (Array.getElem?_eq_some_iff.1 HG2.out).1).trans HG2.out
 have HB3 := hide (bthen HB2.out hb3)
 have hb4 : Below w3.heap.size w3 (w3.alloc (.cells #[.int .i64 V, .slice p rs.length cap] 30)) := bal (Below.refl _ _) _
 have HST := hide (settle0 ins va 1 (by decide) v4 v5 v6 v7 1 (by decide) V p rs.length cap fuel v hf (fun _ _ _ _ => True) (fun _ _ _ _ _ _ _ => trivial) _ (fun W hb => HS.out p cap rs W ((hcl.later hb4).later hb) hL))
 unfold cir0 at HST
 have HG4 : Hid ((w3.alloc (.cells #[.int .i64 V, .slice p rs.length cap] 30)).heap[w.heap.size]? = some (.cells #[.int .i64 ins, va, .int .i64 0, .int .i64 1, v4, v5, v6, v7] 27)) := (hb4.block _ (Array.getElem?_eq_some_iff.1 HG3.out).1).trans HG3.out
 have HB4 := hide (bthen HB3.out hb4)
 have k0 : (w3.alloc (.cells #[.int .i64 V, .slice p rs.length cap] 30)).cell? ⟨w.heap.size, 0, none⟩ = some (.int .i64 ins) := by rw [Lib.cell_of_heap HG4.out]; rfl
 have k1 : (w3.alloc (.cells #[.int .i64 V, .slice p rs.length cap] 30)).cell? ⟨w.heap.size, 1, none⟩ = some (va) := by rw [Lib.cell_of_heap HG4.out]; rfl
 have k2 : (w3.alloc (.cells #[.int .i64 V, .slice p rs.length cap] 30)).cell? ⟨w.heap.size, 2, none⟩ = some (.int .i64 0) := by rw [Lib.cell_of_heap HG4.out]; rfl
 have k3 : (w3.alloc (.cells #[.int .i64 V, .slice p rs.length cap] 30)).cell? ⟨w.heap.size, 3, none⟩ = some (.int .i64 1) := by rw [Lib.cell_of_heap HG4.out]; rfl
 have k4 : (w3.alloc (.cells #[.int .i64 V, .slice p rs.length cap] 30)).cell? ⟨w.heap.size, 4, none⟩ = some (v4) := by rw [Lib.cell_of_heap HG4.out]; rfl
 have k5 : (w3.alloc (.cells #[.int .i64 V, .slice p rs.length cap] 30)).cell? ⟨w.heap.size, 5, none⟩ = some (v5) := by rw [Lib.cell_of_heap HG4.out]; rfl
 have k6 : (w3.alloc (.cells #[.int .i64 V, .slice p rs.length cap] 30)).cell? ⟨w.heap.size, 6, none⟩ = some (v6) := by rw [Lib.cell_of_heap HG4.out]; rfl
 have k7 : (w3.alloc (.cells #[.int .i64 V, .slice p rs.length cap] 30)).cell? ⟨w.heap.size, 7, none⟩ = some (v7) := by rw [Lib.cell_of_heap HG4.out]; rfl
 clear hcl hL hb3 hb4 HCL HG2 HG3 HB2 HB3 j0 j1 j2 j3 j4 j5 j6 j7
 go_wp2_with fail
 generalize w3.alloc (.cells #[.int .i64 V, .slice p rs.length cap] 30) = w4 at *
 refine HST.out.mono ?_
 rintro e w5 ⟨q, k, c, rfl, _, hb5⟩
 have HB5 := hide (bthen HB4.out hb5)
 clear hb5 HST k0 k1 k2 k3 k4 k5 k6 k7 HG4 HB4
 go_wp2
 go_ret
 exact ⟨rfl, HB5.out⟩
set_option maxHeartbeats 4000000 in
theorem isFar0 (ins : Int) (va : Value) (v4 v5 v6 v7 : Value) (fuel : Int) (w : World) :
   Calls Tryz.prog 57 #[cir0 ins va 1 v4 v5 v6 v7, .int .i64 0, .int .i64 fuel] w fun e w' => e = .returned (.bool false) ∧ Below w.heap.size w w' := by
 have HB1 : Hid (Below w.heap.size w (w.alloc (.cells #[.int .i64 ins, va, .int .i64 0, .int .i64 (1 : Nat), v4, v5, v6, v7] 27))) := bal (Below.refl _ _) _
 unfold cir0
 go_enter Tryz.func57, Tryz.ntmps57
 go_wp2_with fail
 refine (ones_0 _).mono ?_
 rintro e w2 ⟨rfl, rfl⟩
 go_wp2
 go_ret
 exact ⟨rfl, HB1.out⟩
set_option maxHeartbeats 4000000 in
theorem isFar1 (ins : Int) (va : Value) (v4 v5 v6 v7 : Value) (fuel f8 v : Int) (h8 : IntKind.i64.wrap (fuel.tdiv 8) = f8) (w : World)
   (hA : ∀ W, Below w.heap.size w W → Calls Tryz.prog 80 #[cir0 ins va 1 v4 v5 v6 v7, .int .i64 1, .int .i64 f8] W (ApOut W v)) :
   Calls Tryz.prog 57 #[cir0 ins va 1 v4 v5 v6 v7, .int .i64 1, .int .i64 fuel] w fun e w' => e = .returned (.bool (v == 2)) ∧ Below w.heap.size w w' := by
 have HB1 : Hid (Below w.heap.size w (w.alloc (.cells #[.int .i64 ins, va, .int .i64 0, .int .i64 (1 : Nat), v4, v5, v6, v7] 27))) := bal (Below.refl _ _) _
 have HA := hide (hA _ HB1.out)
 have k0 : (w.alloc (.cells #[.int .i64 ins, va, .int .i64 0, .int .i64 (1 : Nat), v4, v5, v6, v7] 27)).cell? ⟨w.heap.size, 0, none⟩ = some (.int .i64 ins) := by simp [go_sem]
 have k1 : (w.alloc (.cells #[.int .i64 ins, va, .int .i64 0, .int .i64 (1 : Nat), v4, v5, v6, v7] 27)).cell? ⟨w.heap.size, 1, none⟩ = some (va) := by simp [go_sem]
 have k2 : (w.alloc (.cells #[.int .i64 ins, va, .int .i64 0, .int .i64 (1 : Nat), v4, v5, v6, v7] 27)).cell? ⟨w.heap.size, 2, none⟩ = some (.int .i64 0) := by simp [go_sem]
 have k3 : (w.alloc (.cells #[.int .i64 ins, va, .int .i64 0, .int .i64 (1 : Nat), v4, v5, v6, v7] 27)).cell? ⟨w.heap.size, 3, none⟩ = some (.int .i64 1) := by simp [go_sem]
 have k4 : (w.alloc (.cells #[.int .i64 ins, va, .int .i64 0, .int .i64 (1 : Nat), v4, v5, v6, v7] 27)).cell? ⟨w.heap.size, 4, none⟩ = some (v4) := by simp [go_sem]
 have k5 : (w.alloc (.cells #[.int .i64 ins, va, .int .i64 0, .int .i64 (1 : Nat), v4, v5, v6, v7] 27)).cell? ⟨w.heap.size, 5, none⟩ = some (v5) := by simp [go_sem]
 have k6 : (w.alloc (.cells #[.int .i64 ins, va, .int .i64 0, .int .i64 (1 : Nat), v4, v5, v6, v7] 27)).cell? ⟨w.heap.size, 6, none⟩ = some (v6) := by simp [go_sem]
 have k7 : (w.alloc (.cells #[.int .i64 ins, va, .int .i64 0, .int .i64 (1 : Nat), v4, v5, v6, v7] 27)).cell? ⟨w.heap.size, 7, none⟩ = some (v7) := by simp [go_sem]
 clear hA
 unfold cir0 at *
 go_enter Tryz.func57, Tryz.ntmps57
 go_wp2_with fail
 refine (ones_1 _).mono ?_
 rintro e w2 ⟨rfl, rfl⟩
 go_wp2_with fail
 generalize w.alloc (.cells #[.int .i64 ins, va, .int .i64 0, .int .i64 1, v4, v5, v6, v7] 27) = w1 at *
 refine HA.out.mono ?_
 rintro e w3 ⟨rfl, hb3⟩
 have HB3 := hide (bthen HB1.out hb3)
 clear hb3 HA HB1 k0 k1 k2 k3 k4 k5 k6 k7
 go_wp2
 go_ret
 exact ⟨rfl, HB3.out⟩
end Go.Proofs.YtjhkecnnhddhbaaGreatDoor.Sr
