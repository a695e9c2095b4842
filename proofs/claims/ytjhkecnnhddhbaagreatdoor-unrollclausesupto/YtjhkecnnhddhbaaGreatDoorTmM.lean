/- The plain texts of steps: CheckSteps walked. -/
import Derived.Lib.AppendZeros
import Derived.Test.YtjhkecnnhddhbaaGreatDoorBbM
import Derived.Laws.OwnMore
import Derived.Test.YtjhkecnnhddhbaaGreatDoorTdM
import Derived.Test.YtjhkecnnhddhbaaGreatDoorCeM
import Derived.Deep.QuietTactic
import Derived.BigQuiet
import Derived.Deep.RegionHeld3
import Derived.Laws.ResultCell
import Derived.Deep.CutRange
import Derived.Deep.CutBlock
namespace Go.Proofs.YtjhkecnnhddhbaaGreatDoor
open Go.RowKit Go.Maps Go.WideMaps
set_option maxRecDepth 100000
def ckE (C : Ci) (steps : Int) (begun : Bool) : Int := stE (if C.e = 0 ∧ ¬ (0 ≤ steps ∧ steps ≤ 40) then 3 else C.e) begun C.i.ns
set_option maxHeartbeats 4000000 in
theorem checkSteps_any (C : Ci) (steps : Int) (begun : Bool) (w : World) (hC : CIn w C) :
   Calls Tryz.prog 5 #[C.v, .int .i64 steps, .bool begun] w fun e w' => e = .returned (.int .i64 (ckE C steps begun)) ∧ Below w.heap.size w w' := by
 have hb1 : Below w.heap.size w (w.alloc (.cells #[.int .i64 C.ins, .slice C.p C.ps.length C.cap, .int .i64 C.a, .int .i64 C.s, C.i.v, C.n.v, C.b.v, C.h.v] 27)) := bal (Below.refl _ _) _
 have x4 : (w.alloc (.cells #[.int .i64 C.ins, .slice C.p C.ps.length C.cap, .int .i64 C.a, .int .i64 C.s, C.i.v, C.n.v, C.b.v, C.h.v] 27)).cell? ⟨w.heap.size, 4, none⟩ = some C.i.v := by simp [go_sem]
 have HIN := hide (hC.later hb1)
 have HCK := hide (plainB_any C.ins C.p C.cap C.ps hC.wf hC.pl C.a C.s hC.wa hC.ws C.i C.n C.b C.h hC.il hC.nl (Nat.le_trans hC.bl (by decide)) (Nat.le_trans hC.hl (by decide)) _ HIN.out.at')
 have HB1 := hide hb1
 have hil := hC.il
 unfold maxLen at hil
 have HE : Hid (ckE C steps begun = stE (if C.e = 0 ∧ ¬ (0 ≤ steps ∧ steps ≤ 40) then 3 else C.e) begun C.i.ns) := rfl
 have HCE : Hid (cirE C.ins C.ps C.a C.s C.i.ns C.n.ns C.b.ns C.h.ns = C.e) := rfl
 rw [HCE.out] at HCK
 generalize ckE C steps begun = R at *
 generalize C.e = e0 at *
 clear hb1 hC HCE
 simp only [Sl.v, Ci.v, circ] at *
 go_enter Tryz.func5, Tryz.ntmps5
 go_wp2_with fail
 refine HCK.out.mono ?_
 rintro e w2 ⟨rfl, hb2⟩
 have y4 := cell_later hb2 x4
 have HII := hide (HIN.out.at'.i.later hb2)
 have HB2 := hide (bthen HB1.out hb2)
 clear HCK hb2 x4 HIN HB1
 have HBT := hide (between_any steps 0 40)
 have hkeep : ∃ e1 : Int, Hid (R = stE e1 begun C.i.ns) ∧ Hid (e1 = if e0 = 0 ∧ ¬ (0 ≤ steps ∧ steps ≤ 40) then 3 else e0) := ⟨_, HE, rfl⟩
 obtain ⟨e1, HR, HS⟩ := hkeep
 clear HE
 have hsplit : (e0 = 0 ∧ btw steps 0 40 = true) ∨ (e0 = 0 ∧ btw steps 0 40 = false) ∨ ¬ e0 = 0 := by
   by_cases h : e0 = 0
   · cases hb : btw steps 0 40
     · exact .inr (.inl ⟨h, rfl⟩)
     · exact .inl ⟨h, rfl⟩
   · exact .inr (.inr h)
 rcases hsplit with ⟨rfl, hb⟩ | ⟨rfl, hb⟩ | he
 · have HS1 : Hid (e1 = 0) := by unfold Hid; rw [HS.out, if_neg (fun h => h.2 (btw_true.1 hb))]
   rw [hb] at HBT
   clear HS hb
   go_wp2_with fail
   refine (HBT.out _).mono ?_
   rintro e w3 ⟨rfl, hw3⟩
   obtain rfl : w2 = w3 := hw3.symm
   clear hw3 HBT
   go_wp2
   go_loopw [7, 8] (fun e i wr => ∃ k : Nat, k ≤ C.i.ns.length ∧ i = .int .i64 k ∧ e = .int .i64 (stE e1 begun (C.i.ns.take k)) ∧ wr = w2) (fun _ i _ => C.i.ns.length - (intOf i).toNat)
   case atStart => exact ⟨0, Nat.zero_le _, rfl, by rw [List.take_zero, stE_nil, HS1.out], rfl⟩
   case round =>
     obtain ⟨k, hk, rfl, rfl, hwr⟩ := hrel
     obtain rfl : w2 = wr := hwr.symm
     by_cases hlt : k < C.i.ns.length
     · have hki : (k : Int) < (C.i.ns.length : Int) := by omega
       by_cases hek : stE e1 begun (C.i.ns.take k) = 0
       · have HST := hide (stE_step hlt hek)
         obtain ⟨ib, io, hie, hic⟩ := HII.out (by omega)
         have c0 := hic k hlt
         rw [hie] at y4
         rw [hek]
         clear hic hek
         generalize C.i.ns[k] = x at *
         cases begun with
         | false =>
           have HX : Hid (stE e1 false (C.i.ns.take (k + 1)) = 0) := HST.out
           clear HST
           go_wp2
           go_roundw
           case rel => exact ⟨k + 1, by omega, by go_num, by rw [HX.out], trivial⟩
           case measure => simp [intOf]; omega
         | true =>
           by_cases hx : 1 < x
           · have HX : Hid (stE e1 true (C.i.ns.take (k + 1)) = 7) := by unfold Hid; rw [HST.out, if_pos (by simpa using hx)]
             clear HST
             go_wp2
             go_roundw
             case rel => exact ⟨k + 1, by omega, by go_num, by rw [HX.out], trivial⟩
             case measure => simp [intOf]; omega
           · have HX : Hid (stE e1 true (C.i.ns.take (k + 1)) = 0) := by unfold Hid; rw [HST.out, if_neg (by simpa using hx)]
             clear HST
             go_wp2
             go_roundw
             case rel => exact ⟨k + 1, by omega, by go_num, by rw [HX.out], trivial⟩
             case measure => simp [intOf]; omega
       · have HX : Hid (stE e1 begun (C.i.ns.take k) = R) := by unfold Hid; rw [HR.out, stE_stay hek]
         have hekb : (stE e1 begun (C.i.ns.take k) == 0) = false := by simpa using hek
         clear hek
         generalize stE e1 begun (C.i.ns.take k) = ek at *
         go_wp2
         go_ret
         exact ⟨ret_int HX.out, HB2.out⟩
     · obtain rfl : k = C.i.ns.length := by omega
       have HX : Hid (stE e1 begun (C.i.ns.take C.i.ns.length) = R) := by unfold Hid; rw [HR.out, List.take_length]
       generalize stE e1 begun (C.i.ns.take C.i.ns.length) = ek at *
       go_wp2
       go_ret
       exact ⟨ret_int HX.out, HB2.out⟩
 · have HS1 : Hid (e1 = 3) := by unfold Hid; rw [HS.out, if_pos ⟨rfl, btw_false.1 hb⟩]
   rw [hb] at HBT
   clear HS hb
   go_wp2_with fail
   refine (HBT.out _).mono ?_
   rintro e w3 ⟨rfl, hw3⟩
   obtain rfl : w2 = w3 := hw3.symm
   clear hw3 HBT
   go_wp2
   go_loopw [7, 8] (fun e i wr => ∃ k : Nat, k ≤ C.i.ns.length ∧ i = .int .i64 k ∧ e = .int .i64 (stE e1 begun (C.i.ns.take k)) ∧ wr = w2) (fun _ i _ => C.i.ns.length - (intOf i).toNat)
   case atStart => exact ⟨0, Nat.zero_le _, rfl, by rw [List.take_zero, stE_nil, HS1.out], rfl⟩
   case round =>
     obtain ⟨k, hk, rfl, rfl, hwr⟩ := hrel
     obtain rfl : w2 = wr := hwr.symm
     by_cases hlt : k < C.i.ns.length
     · have hki : (k : Int) < (C.i.ns.length : Int) := by omega
       by_cases hek : stE e1 begun (C.i.ns.take k) = 0
       · have HST := hide (stE_step hlt hek)
         obtain ⟨ib, io, hie, hic⟩ := HII.out (by omega)
         have c0 := hic k hlt
         rw [hie] at y4
         rw [hek]
         clear hic hek
         generalize C.i.ns[k] = x at *
         cases begun with
         | false =>
           have HX : Hid (stE e1 false (C.i.ns.take (k + 1)) = 0) := HST.out
           clear HST
           go_wp2
           go_roundw
           case rel => exact ⟨k + 1, by omega, by go_num, by rw [HX.out], trivial⟩
           case measure => simp [intOf]; omega
         | true =>
           by_cases hx : 1 < x
           · have HX : Hid (stE e1 true (C.i.ns.take (k + 1)) = 7) := by unfold Hid; rw [HST.out, if_pos (by simpa using hx)]
             clear HST
             go_wp2
             go_roundw
             case rel => exact ⟨k + 1, by omega, by go_num, by rw [HX.out], trivial⟩
             case measure => simp [intOf]; omega
           · have HX : Hid (stE e1 true (C.i.ns.take (k + 1)) = 0) := by unfold Hid; rw [HST.out, if_neg (by simpa using hx)]
             clear HST
             go_wp2
             go_roundw
             case rel => exact ⟨k + 1, by omega, by go_num, by rw [HX.out], trivial⟩
             case measure => simp [intOf]; omega
       · have HX : Hid (stE e1 begun (C.i.ns.take k) = R) := by unfold Hid; rw [HR.out, stE_stay hek]
         have hekb : (stE e1 begun (C.i.ns.take k) == 0) = false := by simpa using hek
         clear hek
         generalize stE e1 begun (C.i.ns.take k) = ek at *
         go_wp2
         go_ret
         exact ⟨ret_int HX.out, HB2.out⟩
     · obtain rfl : k = C.i.ns.length := by omega
       have HX : Hid (stE e1 begun (C.i.ns.take C.i.ns.length) = R) := by unfold Hid; rw [HR.out, List.take_length]
       generalize stE e1 begun (C.i.ns.take C.i.ns.length) = ek at *
       go_wp2
       go_ret
       exact ⟨ret_int HX.out, HB2.out⟩
 · have heb : (e0 == 0) = false := by simpa using he
   have HS1 : Hid (e1 = e0) := by unfold Hid; rw [HS.out, if_neg (fun h => he h.1)]
   clear HS HBT
   go_wp2
   go_loopw [7, 8] (fun e i wr => ∃ k : Nat, k ≤ C.i.ns.length ∧ i = .int .i64 k ∧ e = .int .i64 (stE e1 begun (C.i.ns.take k)) ∧ wr = w2) (fun _ i _ => C.i.ns.length - (intOf i).toNat)
   case atStart => exact ⟨0, Nat.zero_le _, rfl, by rw [List.take_zero, stE_nil, HS1.out], rfl⟩
   case round =>
     obtain ⟨k, hk, rfl, rfl, hwr⟩ := hrel
     obtain rfl : w2 = wr := hwr.symm
     by_cases hlt : k < C.i.ns.length
     · have hki : (k : Int) < (C.i.ns.length : Int) := by omega
       by_cases hek : stE e1 begun (C.i.ns.take k) = 0
       · have HST := hide (stE_step hlt hek)
         obtain ⟨ib, io, hie, hic⟩ := HII.out (by omega)
         have c0 := hic k hlt
         rw [hie] at y4
         rw [hek]
         clear hic hek
         generalize C.i.ns[k] = x at *
         cases begun with
         | false =>
           have HX : Hid (stE e1 false (C.i.ns.take (k + 1)) = 0) := HST.out
           clear HST
           go_wp2
           go_roundw
           case rel => exact ⟨k + 1, by omega, by go_num, by rw [HX.out], trivial⟩
           case measure => simp [intOf]; omega
         | true =>
           by_cases hx : 1 < x
           · have HX : Hid (stE e1 true (C.i.ns.take (k + 1)) = 7) := by unfold Hid; rw [HST.out, if_pos (by simpa using hx)]
             clear HST
             go_wp2
             go_roundw
             case rel => exact ⟨k + 1, by omega, by go_num, by rw [HX.out], trivial⟩
             case measure => simp [intOf]; omega
           · have HX : Hid (stE e1 true (C.i.ns.take (k + 1)) = 0) := by unfold Hid; rw [HST.out, if_neg (by simpa using hx)]
             clear HST
             go_wp2
             go_roundw
             case rel => exact ⟨k + 1, by omega, by go_num, by rw [HX.out], trivial⟩
             case measure => simp [intOf]; omega
       · have HX : Hid (stE e1 begun (C.i.ns.take k) = R) := by unfold Hid; rw [HR.out, stE_stay hek]
         have hekb : (stE e1 begun (C.i.ns.take k) == 0) = false := by simpa using hek
         clear hek
         generalize stE e1 begun (C.i.ns.take k) = ek at *
         go_wp2
         go_ret
         exact ⟨ret_int HX.out, HB2.out⟩
     · obtain rfl : k = C.i.ns.length := by omega
       have HX : Hid (stE e1 begun (C.i.ns.take C.i.ns.length) = R) := by unfold Hid; rw [HR.out, List.take_length]
       generalize stE e1 begun (C.i.ns.take C.i.ns.length) = ek at *
       go_wp2
       go_ret
       exact ⟨ret_int HX.out, HB2.out⟩
end Go.Proofs.YtjhkecnnhddhbaaGreatDoor

namespace Go.Proofs.YtjhkecnnhddhbaaGreatDoor
open Go.RowKit Go.Maps Go.WideMaps
set_option maxRecDepth 100000
theorem blk_cell {w1 w2 : World} {a : Addr} {v : Value} (h : w1.cell? a = some v) (hb : w2.heap[a.block]? = w1.heap[a.block]?) : w2.cell? a = some v := by
 rw [World.cell?_of_block (w := w1) (a := a) hb]; exact h
def Sc (w1 wr : World) (M : Nat) (V : Int) (L : List (List Int)) : Prop := ∃ v rs, numsOf rs = L ∧ Cm wr M M v V rs ∧ Below M w1 wr
theorem Sc.lt {w1 wr : World} {M : Nat} {V : Int} {L : List (List Int)} (h : Sc w1 wr M V L) : M < wr.heap.size := by
 obtain ⟨v, rs, _, hc, _⟩ := h
 exact World.block_lt_of_cell? _ _ hc.c1
theorem Sc.later {w1 wr w2 : World} {M : Nat} {V : Int} {L : List (List Int)} (h : Sc w1 wr M V L) (hb : Below wr.heap.size wr w2) : Sc w1 w2 M V L := by
 have hlt := h.lt
 obtain ⟨v, rs, hn, hc, hw⟩ := h
 exact ⟨v, rs, hn, hc.below hb, hw.trans (hb.mono (Nat.le_of_lt hlt))⟩
theorem Sc.bel {w1 wr : World} {M : Nat} {V : Int} {L : List (List Int)} (h : Sc w1 wr M V L) : Below M w1 wr := h.choose_spec.choose_spec.2.2
theorem add_rows {w w2 : World} {base M : Nat} {v v' : Value} {vars : Int} {rs rs2 : List Row} (hmk : Cm w base M v vars rs)
   (hr : InAt w rs2) (hrf : ∀ r ∈ rs2, ∀ a, r.at' = some a → a.block ≠ M ∧ v.ownBlock ≠ some a.block ∧ a.block < w.heap.size ∧ base ≤ a.block)
   (hg : w.grownBy w2 v.ownBlock) (hrow : w2.ownsRow base 25 1 v' (rs ++ rs2).length ((rs ++ rs2).map Row.v)) (hat : v'.ownBlock = v.ownBlock ∨ v'.ownBlock = some w.heap.size) :
   Cm (w2.setCell ⟨M, 1, none⟩ v') base M v' vars (rs ++ rs2) := by
 have hM := World.block_lt_of_cell? _ _ hmk.c1
 simp only at hM
 have hfar : ∀ k, k < w.heap.size → v.ownBlock ≠ some k → v'.ownBlock ≠ some k := fun k hk h e => by
   rcases hat with h2 | h2
   · exact h (h2 ▸ e)
   · rw [h2] at e; cases e; omega
 have hgM : v'.ownBlock ≠ some M := hfar M hM hmk.nv
 have k0 := hg.cell hmk.c0 (fun e => hmk.nv e.symm)
 have k1 := hg.cell hmk.c1 (fun e => hmk.nv e.symm)
 have kf : ∀ j x, w.cell? ⟨M, j, none⟩ = some x → w.frozen? ⟨M, j, none⟩ = false → w2.frozen? ⟨M, j, none⟩ = false := fun j x h1 h2 => by
   rw [grown_frozen hg h1 (fun e => hmk.nv e.symm)]
   exact h2
 have hsz2 : w.heap.size ≤ w2.heap.size := hg.size
 have hIn : ∀ q : Row, IntsAt w q.at' q.ns → (∀ a, q.at' = some a → a.block ≠ M ∧ v.ownBlock ≠ some a.block) → IntsAt (w2.setCell ⟨M, 1, none⟩ v') q.at' q.ns := fun q h1 h2 =>
   (h1.grownBy hg (fun a ha e => (h2 a ha).2 e.symm)).set _ _ (fun a ha => (h2 a ha).1)
 have hFar : ∀ q : Row, (∀ a, q.at' = some a → a.block ≠ M ∧ v.ownBlock ≠ some a.block ∧ a.block < w.heap.size ∧ base ≤ a.block) → ∀ a, q.at' = some a → a.block ≠ M ∧ v'.ownBlock ≠ some a.block ∧ a.block < w2.heap.size ∧ base ≤ a.block := fun q h a ha => by
   obtain ⟨h1, h2, h3, h5⟩ := h a ha
   exact ⟨h1, hfar _ h3 h2, by omega, h5⟩
 refine ⟨?_, ?_, ?_, ?_, ?_, ?_, hmk.hM, hgM, ?_⟩
 · rw [World.cell?_setCell_other w2 _ _ _ (by simp)]; exact k0
 · exact World.cell?_setCell_same w2 _ _ k1
 · rw [World.frozen?_setCell]; exact kf _ _ hmk.c0 hmk.f0
 · rw [World.frozen?_setCell]; exact kf _ _ hmk.c1 hmk.f1
 · exact owns_set hrow hgM
 · intro q hq
   rcases List.mem_append.1 hq with h | h
   · exact hIn q (hmk.inn q h) (fun a ha => ⟨(hmk.far q h a ha).1, (hmk.far q h a ha).2.1⟩)
   · exact hIn q (hr q h) (fun a ha => ⟨(hrf q h a ha).1, (hrf q h a ha).2.1⟩)
 · intro q hq a ha
   rw [show (w2.setCell ⟨M, 1, none⟩ v').heap.size = w2.heap.size by simp]
   rcases List.mem_append.1 hq with h | h
   · exact hFar q (hmk.far q h) a ha
   · exact hFar q (hrf q h) a ha
theorem run_append_nil {w : World} (base : Nat) (t ty e : TypeId) (i : TypeInfo) (size : Nat) (ht : Tryz.prog.underlying t = some (.slice e)) (hi : Tryz.prog.info? e = some i)
   (v : Value) (n c : Nat) (xs : List Value) (hown : w.ownsRow base e size v n xs) :
   (Builtin.append_ #[t, t] ty #[v, .slice none 0 c]).run Tryz.prog w = .ok v w := by
 rcases hown.2 with ⟨rfl, rfl⟩ | ⟨g, cap, cur, rfl, _, _, hnc, _⟩
 · simp [Builtin.append_, run_underlying ht, sizeOf, typeInfo, hi, Builtin.lenOf, Builtin.firstCells]
 · simp [Builtin.append_, run_underlying ht, sizeOf, typeInfo, hi, Builtin.lenOf, Builtin.firstCells, hnc, storeCells]
def Ap (w1 w5 : World) (M : Nat) (V : Int) (v : Value) (p : Option Addr) (n cap : Nat) (L : List (List Int)) : Prop :=
 ∃ p9 n9 c9 w9, (Builtin.append_ #[28, 28] 28 #[v, .slice p n cap]).run Tryz.prog w5 = .ok (.slice p9 n9 c9) w9 ∧ w9.cell? ⟨M, 1, none⟩ = some v ∧ w9.frozen? ⟨M, 1, none⟩ = false ∧ Sc w1 (w9.setCell ⟨M, 1, none⟩ (.slice p9 n9 c9)) M V L ∧ Below M w1 w9
theorem sc_rows {w1 w5 : World} {M : Nat} {V : Int} {p : Option Addr} {cap : Nat} {rs rs2 : List Row} {v : Value} (hc : Cm w5 M M v V rs) (hb : Below M w1 w5) (hl : rs.length + rs2.length ≤ 2000000000)
   (hp : RowsAt w5 p rs2) (hi : InAt w5 rs2) (hf : ∀ r ∈ rs2, ∀ a, r.at' = some a → a.block ≠ M ∧ v.ownBlock ≠ some a.block ∧ a.block < w5.heap.size ∧ M ≤ a.block) : Ap w1 w5 M V v p rs2.length cap (numsOf rs ++ numsOf rs2) := by
 obtain ⟨i0, hi0, hz0, hz1, hz2⟩ := info_parts infoR
 have hM := World.block_lt_of_cell? _ _ hc.c1
 simp only at hM
 have key : ∃ v9 w9, (Builtin.append_ #[28, 28] 28 #[v, .slice p rs2.length cap]).run Tryz.prog w5 = .ok v9 w9 ∧ w9.ownsRow M 25 1 v9 (rs ++ rs2).length ((rs ++ rs2).map Row.v) ∧ w5.grownBy w9 v.ownBlock ∧ (v9.ownBlock = v.ownBlock ∨ v9.ownBlock = some w5.heap.size) := by
   rw [List.length_append, List.map_append]
   cases p with
   | none =>
     have h0 : rs2 = [] := by
       cases rs2 with
       | nil => rfl
       | cons r t => obtain ⟨b, off, h, _⟩ := hp (by simp); cases h
     subst h0
     exact ⟨v, w5, run_append_nil M 28 28 25 i0 1 Tryz.underlying28 hi0 v rs.length cap _ hc.row, by simpa using hc.row, ⟨rfl, rfl, rfl, Nat.le_refl _, fun _ _ _ => rfl⟩, .inl rfl⟩
   | some ad =>
     obtain ⟨v9, w9, hr, ho, hg, _, hat⟩ := run_append_own_at (P := Tryz.prog) w5 M 28 28 25 i0 (.slice none 0 0) 1 24 Tryz.underlying28 hi0 hz0 hz1 hz2 rfl (by decide) v rs.length (rs.map Row.v) hc.row ad rs2.length cap (rs2.map Row.v) (by simp)
       (fun j u hj => by
         rw [List.getElem?_map] at hj
         cases hq : rs2[j]? with
         | none => rw [hq] at hj; cases hj
         | some r =>
           rw [hq] at hj
           obtain ⟨hjl, hje⟩ := List.getElem?_eq_some_iff.1 hq
           obtain ⟨b, off, e, hcs⟩ := hp (by omega)
           cases e
           have := hcs j hjl
           rw [hje] at this
           cases hj
           unfold Addr.add
           by_cases h0 : j = 0
           · subst h0; simpa using this
           · simpa [h0] using this)
       (fun u hu => by obtain ⟨r, _, rfl⟩ := List.mem_map.1 hu; rfl) (by unfold maxLen; omega) (by omega) (Nat.le_of_lt hM)
     exact ⟨v9, w9, hr, ho, hg, hat⟩
 obtain ⟨v9, w9, hr, ho, hg, hat⟩ := key
 obtain ⟨p9, c9, rfl, _⟩ := owns_rows ho
 have hbw : Below M w1 w9 := hb.grown hg (Nat.le_of_lt hM) (fun k hk => (hc.row.lt k hk).1)
 refine ⟨p9, _, c9, w9, hr, hg.cell hc.c1 (fun e => hc.nv e.symm), ?_, ⟨_, rs ++ rs2, by simp [numsOf], add_rows hc hi hf hg ho hat, Below.setCell (p := ⟨M, 1, none⟩) hbw (Nat.le_refl _) _⟩, hbw⟩
 rw [grown_frozen hg hc.c1 (fun e => hc.nv e.symm)]
 exact hc.f1
theorem sc_new {w1 wr w5 : World} {M : Nat} {V : Int} {L2 : List (List Int)} {rs : List Row} {v : Value} {e : Ending} (hc : Cm wr M M v V rs) (hb : Below M w1 wr) (hl : rs.length + L2.length ≤ 2000000000) (h : NewRows wr L2 e w5) :
   ∃ p n cap, e = .returned (.slice p n cap) ∧ Cm w5 M M v V rs ∧ Below wr.heap.size wr w5 ∧ Ap w1 w5 M V v p n cap (numsOf rs ++ L2) := by
 have hM := World.block_lt_of_cell? _ _ hc.c1
 simp only at hM
 obtain ⟨p, cap, rs2, he, hn, hp, hi, hf, hpf, hb5⟩ := h
 have hc5 := hc.below hb5
 have hl2 : rs2.length = L2.length := by rw [← hn, List.length_map]
 have := sc_rows (w1 := w1) (cap := cap) hc5 (hb.trans (hb5.mono (Nat.le_of_lt hM))) (by omega) hp hi (fun r hr a ha => by
   have h1 := hf r hr a ha
   refine ⟨by omega, fun e => ?_, h1.2, by omega⟩
   have := (hc.row.lt _ e).2
   omega)
 rw [show numsOf rs2 = L2 from hn] at this
 exact ⟨p, rs2.length, cap, he, hc5, hb5, this⟩
end Go.Proofs.YtjhkecnnhddhbaaGreatDoor

namespace Go.Proofs.YtjhkecnnhddhbaaGreatDoor
theorem stL_num (f a : Int) (t i : Nat) (h0 : 0 ≤ (t : Int) * f) (ha : 0 ≤ a) : numL (stL f a t i) = t * f + 1 + a + i ∧ numL (turn (stL f a t i)) = -(t * f + 1 + a + i) ∧ 2 ≤ stL f a t i ∧ 2 ≤ turn (stL f a t i) := by
 have e : stL f a t i = 2 * (1 + a + i) + 2 * (t * f) := by unfold stL atL; rw [if_neg (by omega)]
 have o : odd (stL f a t i) = false := by rw [e]; unfold odd; rw [show (2 * (1 + a + (i : Int)) + 2 * ((t : Int) * f)) % 2 = 0 by omega]; rfl
 have o2 : odd (stL f a t i + 1) = true := by rw [e]; unfold odd; rw [show (2 * (1 + a + (i : Int)) + 2 * ((t : Int) * f) + 1) % 2 = 1 by omega]; rfl
 have tu : turn (stL f a t i) = stL f a t i + 1 := by unfold turn; rw [o]; rfl
 refine ⟨?_, ?_, by rw [e]; omega, by rw [tu, e]; omega⟩
 · unfold numL; rw [o, if_neg (by simp), e]; omega
 · rw [tu]; unfold numL; rw [o2, if_pos rfl, e]; omega
def samP (b x : Int) (n : Int) : List (List Int) := if n = 0 then [[-b]] else if n = 1 then [[b]] else [[-b, x], [b, -x]]
theorem same_P (f a : Int) (t u i : Nat) (n : Int) (hn : 0 ≤ n) (h0 : 0 ≤ (t : Int) * f) (hu : 0 ≤ (u : Int) * f) (ha : 0 ≤ a) : sameC (stL f a t i) (atL f u n) = samP (t * f + 1 + a + i) (numP n (u * f)) n := by
 obtain ⟨h1, h2, h3, h4⟩ := stL_num f a t i h0 ha
 unfold sameC samP
 by_cases hn0 : n = 0
 · subst hn0
   have e : atL f u 0 = 0 := by unfold atL; rw [if_pos (by decide)]
   rw [e, if_neg (by decide), if_pos rfl, if_pos rfl]
   unfold rootC
   rw [if_neg (by omega), if_neg (by omega), h2]
 · by_cases hn1 : n = 1
   · subst hn1
     have e : atL f u 1 = 1 := by unfold atL; rw [if_pos (by decide)]
     rw [e, if_pos rfl, if_neg (by decide), if_pos rfl]
     unfold rootC
     rw [if_neg (by omega), if_neg (by omega), h1]
   · have e : atL f u n = n + 2 * (u * f) := by unfold atL; rw [if_neg (by omega)]
     rw [if_neg (by omega), if_neg (by omega), if_neg hn0, if_neg hn1, h1, numP_at f u n (by omega)]
def begP (b : Int) (n : Int) : List (List Int) := if n = 0 then [[-b]] else if n = 1 then [[b]] else []
theorem begin_P (C : Ci) (i : Nat) (hn : C.i.ns.getD i 0 = -1 ∨ C.i.ns.getD i 0 = 0 ∨ C.i.ns.getD i 0 = 1) (ha : 0 ≤ C.a) : beginC C i = begP (0 * C.f + 1 + C.a + i) (C.i.ns.getD i 0) := by
 unfold beginC
 generalize C.i.ns.getD i 0 = n at *
 obtain ⟨h1, h2, h3, h4⟩ := stL_num C.f C.a 0 i (by simp) ha
 rcases hn with rfl | rfl | rfl
 · rw [if_pos rfl]; rfl
 · rw [if_neg (by decide)]
   unfold sameC rootC begP
   rw [if_neg (by decide), if_pos rfl, if_pos rfl, if_neg (by omega), if_neg (by omega), h2]
   rfl
 · rw [if_neg (by decide)]
   unfold sameC rootC begP
   rw [if_pos rfl, if_neg (by omega), if_neg (by omega), h1, if_neg (by decide), if_pos rfl]
   rfl
end Go.Proofs.YtjhkecnnhddhbaaGreatDoor

namespace Go.Proofs.YtjhkecnnhddhbaaGreatDoor
open Go.RowKit Go.Maps Go.WideMaps
set_option maxRecDepth 100000
structure Fx (w w1 : World) (B G F M : Nat) (C : Ci) (last : Nat) : Prop where
 ok : COk w C last
 b : Below w.heap.size w w1
 wM : w.heap.size ≤ M
 x0 : w1.cell? ⟨B, 0, none⟩ = some (.int .i64 C.ins)
 x1 : w1.cell? ⟨B, 1, none⟩ = some (.slice C.p C.ps.length C.cap)
 x2 : w1.cell? ⟨B, 2, none⟩ = some (.int .i64 C.a)
 x3 : w1.cell? ⟨B, 3, none⟩ = some (.int .i64 C.s)
 x4 : w1.cell? ⟨B, 4, none⟩ = some (.slice C.i.at' C.i.ns.length C.i.cap)
 x5 : w1.cell? ⟨B, 5, none⟩ = some (.slice C.n.at' C.n.ns.length C.n.cap)
 x6 : w1.cell? ⟨B, 6, none⟩ = some (.slice C.b.at' C.b.ns.length C.b.cap)
 x7 : w1.cell? ⟨B, 7, none⟩ = some (.slice C.h.at' C.h.ns.length C.h.cap)
 xf : w1.cell? ⟨F, 0, none⟩ = some (.int .i64 C.f)
 g : w1.heap[G]? = some (.cells #[.int .i64 0, .slice none 0 0] 30)
 hB : B < M
 hF : F < M
 hG : G < M
 wG : w.heap.size ≤ G
structure Fy (wr : World) (B F : Nat) (C : Ci) : Prop where
 at' : CirAt wr C.p C.ps C.i C.n C.b C.h
 x0 : wr.cell? ⟨B, 0, none⟩ = some (.int .i64 C.ins)
 x1 : wr.cell? ⟨B, 1, none⟩ = some (.slice C.p C.ps.length C.cap)
 x2 : wr.cell? ⟨B, 2, none⟩ = some (.int .i64 C.a)
 x3 : wr.cell? ⟨B, 3, none⟩ = some (.int .i64 C.s)
 x4 : wr.cell? ⟨B, 4, none⟩ = some (.slice C.i.at' C.i.ns.length C.i.cap)
 x5 : wr.cell? ⟨B, 5, none⟩ = some (.slice C.n.at' C.n.ns.length C.n.cap)
 x6 : wr.cell? ⟨B, 6, none⟩ = some (.slice C.b.at' C.b.ns.length C.b.cap)
 x7 : wr.cell? ⟨B, 7, none⟩ = some (.slice C.h.at' C.h.ns.length C.h.cap)
 xf : wr.cell? ⟨F, 0, none⟩ = some (.int .i64 C.f)
theorem Fx.at {w w1 wr : World} {B G F M : Nat} {C : Ci} {last : Nat} (h : Fx w w1 B G F M C last) (hb : Below M w1 wr) : Fy wr B F C := by
 have c : ∀ {q : Addr} {x : Value}, w1.cell? q = some x → q.block < M → wr.cell? q = some x := fun hq hl => blk_cell hq (hb.block _ hl)
 exact ⟨h.ok.at'.later (h.b.trans (hb.mono h.wM)), c h.x0 h.hB, c h.x1 h.hB, c h.x2 h.hB, c h.x3 h.hB, c h.x4 h.hB, c h.x5 h.hB, c h.x6 h.hB, c h.x7 h.hB, c h.xf h.hF⟩
theorem addS_any {w1 wr : World} {M : Nat} {V : Int} {L : List (List Int)} (h : Sc w1 wr M V L) (hL : L.length ≤ 1000000000) (l : List Int) (c : Nat) (o : Obj) (hI : IntsAt (wr.alloc o) (some ⟨wr.heap.size, 0, none⟩) l) :
   Calls Tryz.prog 23 #[.slice (some ⟨wr.heap.size, 0, none⟩) l.length c, .pointer (some ⟨M, 0, none⟩)] (wr.alloc o) fun e w' => e = .returned (.tuple #[]) ∧ Sc w1 w' M V (L ++ [l]) := by
 have hM := h.lt
 obtain ⟨v, rs, hn, hc, hb⟩ := h
 have hal : Below wr.heap.size wr (wr.alloc o) := bal (Below.refl _ _) o
 refine (addP_any M M v V rs (by rw [← numsOf_len, hn]; exact hL) l _ c _ (by simp; omega) (hc.below hal) hI (fun a ha => ?_)).mono ?_
 · cases ha
   refine ⟨by simp; omega, fun e => ?_, by simp, by simp; omega⟩
   have := (hc.row.lt _ e).2
   simp at this
 · rintro e w' ⟨rfl, v', r, hr, hc', hb', _⟩
   exact ⟨rfl, v', rs ++ [r], by rw [numsOf_app, hn, hr], hc', (hb.trans (hal.mono (Nat.le_of_lt hM))).trans hb'⟩
theorem addS_one {w1 wr : World} {M : Nat} {V : Int} {L : List (List Int)} (h : Sc w1 wr M V L) (hL : L.length ≤ 1000000000) (x : Int) :
   Calls Tryz.prog 23 #[.slice (some ⟨wr.heap.size, 0, none⟩) 1 1, .pointer (some ⟨M, 0, none⟩)] (wr.alloc (.cells #[.int .i64 x] 3)) fun e w' => e = .returned (.tuple #[]) ∧ Sc w1 w' M V (L ++ [[x]]) :=
 addS_any h hL [x] 1 _ (ints_one x)
theorem addS_two {w1 wr : World} {M : Nat} {V : Int} {L : List (List Int)} (h : Sc w1 wr M V L) (hL : L.length ≤ 1000000000) (x y : Int) :
   Calls Tryz.prog 23 #[.slice (some ⟨wr.heap.size, 0, none⟩) 2 2, .pointer (some ⟨M, 0, none⟩)] (wr.alloc (.cells #[.int .i64 x, .int .i64 y] 3)) fun e w' => e = .returned (.tuple #[]) ∧ Sc w1 w' M V (L ++ [[x, y]]) :=
 addS_any h hL [x, y] 2 _ (ints_two x y)
theorem bitS_any {wr : World} {B F : Nat} {C : Ci} (h : Fy wr B F C) (t i : Nat) (ht0 : 0 ≤ (t : Int) * C.f) (ht : (t : Int) * C.f ≤ 200000) (ha : 0 ≤ C.a) (ha2 : C.a ≤ 1000) (hi : i ≤ 1000) :
   Calls Tryz.prog 24 #[.int .i64 t, .int .i64 i, .pointer (some ⟨F, 0, none⟩), .pointer (some ⟨B, 0, none⟩)] wr fun e w' => e = .returned (.int .i64 (t * C.f + 1 + C.a + i)) ∧ w' = wr :=
 bit_any C.f C.a t i ht0 (by omega) ha ha2 hi F B wr h.xf h.x2
end Go.Proofs.YtjhkecnnhddhbaaGreatDoor

namespace Go.Proofs.YtjhkecnnhddhbaaGreatDoor
open Go.RowKit Go.Maps Go.WideMaps
set_option maxRecDepth 100000
def opensWith (n : Nat) : Code → Bool
 | .region m _ _ => m == n
 | .seq a _ => opensWith n a
 | _ => false
def findSeq (n : Nat) : Code → Option Code
 | .seq a b => if opensWith n a then some (.seq a b) else match findSeq n a with | some c => some c | none => findSeq n b
 | .block _ b => findSeq n b
 | .cond _ t e => match findSeq n t with | some c => some c | none => findSeq n e
 | .loop b => findSeq n b
 | _ => none
def StO (w : World) (V : Int) (L : List (List Int)) (e : Ending) (w' : World) : Prop :=
 ∃ pv cv rws, e = .returned (cval V pv (List.length rws) cv) ∧ numsOf rws = L ∧ ClAt w' pv rws ∧ Below w.heap.size w w' ∧ (∀ a, pv = some a → w.heap.size ≤ a.block) ∧ ∀ r ∈ rws, ∀ a, r.at' = some a → w.heap.size ≤ a.block
theorem stO_of {w w1 wc : World} {B G F M : Nat} {C : Ci} {last : Nat} {V : Int} {L : List (List Int)} (hx : Fx w w1 B G F M C last) (hs : Sc w1 wc M V L) :
   ∃ pz nz cz, wc.cell? ⟨M, 0, none⟩ = some (.int .i64 V) ∧ wc.cell? ⟨M, 1, none⟩ = some (.slice pz nz cz) ∧ wc.cell? ⟨G, 0, none⟩ = some (.int .i64 0) ∧ wc.cell? ⟨G, 1, none⟩ = some (.slice none 0 0) ∧
     wc.frozen? ⟨G, 0, none⟩ = false ∧ wc.frozen? ⟨G, 1, none⟩ = false ∧
     ((wc.setCell ⟨G, 0, none⟩ (.int .i64 V)).setCell ⟨G, 1, none⟩ (.slice pz nz cz)).heap[G]? = some (.cells #[.int .i64 V, .slice pz nz cz] 30) ∧
     StO w V L (.returned (.agg #[.int .i64 V, .slice pz nz cz])) ((wc.setCell ⟨G, 0, none⟩ (.int .i64 V)).setCell ⟨G, 1, none⟩ (.slice pz nz cz)) := by
 obtain ⟨v, rs, hn, hc, hb⟩ := hs
 obtain ⟨p, cap, rfl, hr⟩ := owns_rows hc.row
 have hG : wc.heap[G]? = some (.cells #[.int .i64 0, .slice none 0 0] 30) := (hb.block _ hx.hG).trans hx.g
 obtain ⟨⟨g0, g1, f0, f1⟩, gh⟩ := r30 hG
 have hGM := hx.hG
 have hpM : ∀ a, p = some a → M ≤ a.block := fun a ha => (hc.row.lt a.block (by subst ha; rfl)).1
 have hpG : ∀ a, p = some a → a.block ≠ G := fun a ha => by
   have := hpM a ha
   omega
 have hrG : ∀ r ∈ rs, ∀ a, r.at' = some a → a.block ≠ G := fun r h a ha => by
   have := (hc.far r h a ha).2.2.2
   omega
 refine ⟨p, rs.length, cap, hc.c0, hc.c1, g0, g1, f0, f1, gh _ _, p, cap, rs, rfl, hn, clAt_set (clAt_set ⟨hr, hc.inn⟩ hpG hrG) hpG hrG, ?_, fun a ha => Nat.le_trans hx.wM (hpM a ha), fun r h a ha => Nat.le_trans hx.wM (hc.far r h a ha).2.2.2⟩
 exact ((hx.b.trans (hb.mono hx.wM)).setCell (p := ⟨G, 0, none⟩) hx.wG _).setCell (p := ⟨G, 1, none⟩) hx.wG _
def begB (C : Ci) (begun : Bool) : List (List Int) := if begun = true then beginsT C else []
theorem stepsL_le {f : Nat → List (List Int)} {c n : Nat} (h : ∀ k, k < n → (f k).length ≤ c) : (stepsL f n).length ≤ n * c := by
 induction n with
 | zero => simp [stepsL]
 | succ n ih =>
   rw [stepsL_succ, List.length_append, Nat.succ_mul]
   have := ih (fun k hk => h k (by omega))
   have := h n (by omega)
   omega
theorem rootC_le (x : Int) : (rootC x).length ≤ 1 := by
 unfold rootC
 split
 · simp
 · split <;> simp
theorem sameC_le (x y : Int) : (sameC x y).length ≤ 2 := by
 unfold sameC
 split
 · have := rootC_le x; omega
 · split
   · have := rootC_le (turn x); omega
   · simp
theorem mustP_le (x off : Int) : (mustP x off).length ≤ 1 := by
 unfold mustP
 split
 · simp
 · split <;> simp
theorem holdsT_le (C : Ci) (t : Nat) : (holdsT C t).length ≤ C.h.ns.length := by
 have := stepsL_le (f := holdC C t) (c := 1) (n := C.h.ns.length) (fun _ _ => rootC_le _)
 unfold holdsT
 omega
theorem holds_le (C : Ci) (t k : Nat) (ht : t ≤ 41) (hk : k ≤ C.h.ns.length) (hl : C.h.ns.length ≤ 2000000) : (stepsL (holdsT C) t).length + (stepsL (holdC C t) k).length ≤ 84000000 := by
 have h1 := stepsL_le (f := holdsT C) (c := 2000000) (n := t) (fun j _ => Nat.le_trans (holdsT_le C j) hl)
 have h2 := stepsL_le (f := holdC C t) (c := 1) (n := k) (fun _ _ => rootC_le _)
 omega
theorem bondsT_le (C : Ci) (t : Nat) : (bondsT C t).length ≤ C.n.ns.length * 2 := stepsL_le (f := bondC C t) (c := 2) (n := C.n.ns.length) (fun _ _ => sameC_le _ _)
theorem bonds_le (C : Ci) (t k : Nat) (ht : t ≤ 41) (hk : k ≤ C.n.ns.length) (hl : C.n.ns.length ≤ 1000) : (stepsL (bondsT C) t).length + (stepsL (bondC C t) k).length ≤ 84000 := by
 have h1 := stepsL_le (f := bondsT C) (c := 2000) (n := t) (fun j _ => Nat.le_trans (bondsT_le C j) (by omega))
 have h2 := stepsL_le (f := bondC C t) (c := 2) (n := k) (fun _ _ => sameC_le _ _)
 omega
theorem beginC_le (C : Ci) (k : Nat) : (beginC C k).length ≤ 2 := by
 unfold beginC
 split
 · simp
 · exact sameC_le _ _
theorem begins_le (C : Ci) (k : Nat) (hk : k ≤ 1000) : (stepsL (beginC C) k).length ≤ 2000 := by
 have h2 := stepsL_le (f := beginC C) (c := 2) (n := k) (fun k _ => beginC_le C k)
 omega
theorem ands_le (C : Ci) (t : Nat) (ht : t ≤ 41) (hl : C.ps.length ≤ 200000) : (stepsL (fun t => andsT C t C.ps.length) t).length ≤ 24600000 := by
 have h2 := stepsL_le (f := fun t => andsT C t C.ps.length) (c := 600000) (n := t) (fun k _ => by rw [andsT_len C k _ (Nat.le_refl _)]; omega)
 omega
theorem row_at {w : World} {p : Option Addr} {l : List Int} {bb bo k : Nat} (h : IntsAt w p l) (hk : k < l.length) (hp : p = some ⟨bb, bo, none⟩) : w.cell? ⟨bb, bo + k, none⟩ = some (.int .i64 l[k]) := by
 obtain ⟨b, o, e, hc⟩ := h (by omega)
 rw [hp] at e
 cases e
 exact hc k hk
theorem row_is {w : World} {p : Option Addr} {l : List Int} (h : IntsAt w p l) (hl : 0 < l.length) : ∃ bb bo, p = some ⟨bb, bo, none⟩ := by
 obtain ⟨b, o, e, _⟩ := h hl
 exact ⟨b, o, e⟩
end Go.Proofs.YtjhkecnnhddhbaaGreatDoor

namespace Go.Proofs.YtjhkecnnhddhbaaGreatDoor
open Go.RowKit Go.Maps Go.WideMaps
set_option maxRecDepth 100000
theorem hang_ck {l : List Int} (h : ∀ x ∈ l, x = -1 ∨ 0 ≤ x) : l.any hangI = l.any fun x => decide (1 < x) := by
 rw [Bool.eq_iff_iff]
 simp only [List.any_eq_true, decide_eq_true_eq]
 constructor
 · rintro ⟨x, hx, h1⟩
   refine ⟨x, hx, ?_⟩
   simp [hangI] at h1
   have := h x hx
   omega
 · rintro ⟨x, hx, h1⟩
   refine ⟨x, hx, ?_⟩
   simp [hangI]
   omega
theorem un_ck {w : World} {C : Ci} {steps : Int} {begun : Bool} (hC : CIn w C) (h : ckE C steps begun ≠ 0) : unE C steps begun = ckE C steps begun := by
 unfold unE
 unfold ckE stE at h ⊢
 by_cases h0 : C.e = 0
 · by_cases hs : 0 ≤ steps ∧ steps ≤ 40
   · have hCO := co_of hC h0 0 (by omega)
     have hh := hang_ck (l := C.i.ns) (fun x hx => (hCO.ni x hx).imp id (fun q => q.1))
     have e1 : (if C.e = 0 ∧ ¬ (0 ≤ steps ∧ steps ≤ 40) then (3 : Int) else C.e) = 0 := by rw [if_neg (fun e => e.2 hs)]; exact h0
     rw [e1] at h ⊢
     rw [if_neg (show ¬ (0 : Int) ≠ 0 by simp)] at h
     rw [if_neg (show ¬ C.e ≠ 0 by simpa using h0), if_neg (show ¬ (steps < 0 ∨ 40 < steps) by omega), hh, if_neg (show ¬ (0 : Int) ≠ 0 by simp)]
     by_cases h1 : (begun && C.i.ns.any fun x => decide (1 < x)) = true
     · rw [if_pos h1, if_pos h1]
     · rw [if_neg h1] at h; exact absurd rfl h
   · have e1 : (if C.e = 0 ∧ ¬ (0 ≤ steps ∧ steps ≤ 40) then (3 : Int) else C.e) = 3 := if_pos ⟨h0, hs⟩
     rw [e1, if_neg (show ¬ C.e ≠ 0 by simpa using h0), if_pos (show steps < 0 ∨ 40 < steps by omega), if_pos (show (3 : Int) ≠ 0 by decide)]
 · have e1 : (if C.e = 0 ∧ ¬ (0 ≤ steps ∧ steps ≤ 40) then (3 : Int) else C.e) = C.e := if_neg (fun e => h0 e.1)
   rw [e1, if_pos h0, if_pos h0]
theorem ck_zero {C : Ci} {steps : Int} {begun : Bool} (h : ckE C steps begun = 0) : C.e = 0 ∧ (0 ≤ steps ∧ steps ≤ 40) ∧ (begun = true → ∀ x ∈ C.i.ns, ¬ 1 < x) := by
 unfold ckE stE at h
 by_cases h0 : C.e = 0
 · by_cases hs : 0 ≤ steps ∧ steps ≤ 40
   · have e1 : (if C.e = 0 ∧ ¬ (0 ≤ steps ∧ steps ≤ 40) then (3 : Int) else C.e) = 0 := by rw [if_neg (fun e => e.2 hs)]; exact h0
     rw [e1, if_neg (by simp)] at h
     refine ⟨h0, hs, fun hb x hx hx1 => ?_⟩
     subst hb
     rw [if_pos (by simp only [Bool.true_and, List.any_eq_true, decide_eq_true_eq]; exact ⟨x, hx, hx1⟩)] at h
     cases h
   · rw [show (if C.e = 0 ∧ ¬ (0 ≤ steps ∧ steps ≤ 40) then (3 : Int) else C.e) = 3 from if_pos ⟨h0, hs⟩, if_pos (by decide)] at h; cases h
 · rw [show (if C.e = 0 ∧ ¬ (0 ≤ steps ∧ steps ≤ 40) then (3 : Int) else C.e) = C.e from if_neg (fun e => h0 e.1), if_pos h0] at h; exact absurd h h0
theorem un_zero {w : World} {C : Ci} {steps : Int} {begun : Bool} (hC : CIn w C) (h : ckE C steps begun = 0) :
   unE C steps begun = if 200000 < (steps + 1) * C.f then 3 else chkC ((steps + 1) * C.f) (stepL C steps.toNat begun) := by
 obtain ⟨h0, hs, hb⟩ := ck_zero h
 have hCO := co_of hC h0 0 (by omega)
 have hh := hang_ck (l := C.i.ns) (fun x hx => (hCO.ni x hx).imp id (fun q => q.1))
 unfold unE
 rw [if_neg (by simpa using h0), if_neg (by omega), hh, if_neg]
 · split
   · rfl
   · split
     · have hf := hCO.f0
       have hV : 0 ≤ (steps + 1) * C.f := Int.mul_nonneg (by omega) hf
       unfold chkC
       rw [if_neg, if_pos (by assumption)]
       rw [btw_true.2 ⟨hV, by omega⟩]
       simp
     · rfl
 · cases begun with
   | false => simp
   | true =>
     simp only [Bool.true_and, List.any_eq_true, decide_eq_true_eq]
     rintro ⟨x, hx, h1⟩
     exact hb rfl x hx h1
theorem stepL_le {w : World} {C : Ci} {last : Nat} (hC : COk w C last) (begun : Bool) : (stepL C last begun).length ≤ 200000000 := by
 have hla := hC.la
 have h1 := ands_le C (last + 1) (by omega) hC.pl
 have h2 := bonds_le C last 0 (by omega) (by omega) (by have := hC.nl; have := hC.sm; have := hC.i1; have := hC.a0; omega)
 have h3 := begins_le C C.i.ns.length (by have := hC.il; have := hC.sm; have := hC.i1; have := hC.a0; omega)
 have h4 := holds_le C (last + 1) 0 (by omega) (by omega) hC.hl
 have h5 : (badC C last).length ≤ 1 := by unfold badC; split <;> simp
 have h6 : (if begun = true then beginsT C else []).length ≤ 2000 := by split; exact h3; simp
 unfold stepL
 simp only [List.length_append]
 omega
end Go.Proofs.YtjhkecnnhddhbaaGreatDoor

namespace Go.Proofs.YtjhkecnnhddhbaaGreatDoor
open Go.RowKit Go.Maps Go.WideMaps
set_option maxRecDepth 100000
theorem row_five {vars : Int} {ns : List Int} (h1 : ns.length ≤ 200) {k : Nat} (hk : k < ns.length) (h : noneC vars ns[k] = true) : rowE vars ns = 5 := by
 unfold rowE
 rw [if_neg (by omega), if_pos (List.any_eq_true.2 ⟨_, List.getElem_mem hk, h⟩)]
theorem row_nil {vars : Int} {ns : List Int} (h1 : ns.length ≤ 200) (h : ∀ i (hi : i < ns.length), noneC vars ns[i] = false) : rowE vars ns = 0 := by
 unfold rowE
 have : ns.any (noneC vars) = false := by
   rw [List.any_eq_false]
   intro x hx
   obtain ⟨i, hi, rfl⟩ := List.getElem_of_mem hx
   rw [h i hi]; simp
 rw [if_neg (by omega), this]
 rfl
set_option maxHeartbeats 4000000 in
theorem checkClause_any (vars : Int) (h0 : 0 ≤ vars) (h1 : vars ≤ 200000) (p : Option Addr) (cap : Nat) (ns : List Int) (hl : ns.length ≤ maxLen) (w : World) (hI : IntsAt w p ns) :
   Calls Tryz.prog 55 #[.int .i64 vars, .slice p ns.length cap] w fun e w' => e = .returned (.int .i64 (rowE vars ns)) ∧ w' = w := by
 have HI := hide hI
 unfold maxLen at hl
 clear hI
 by_cases h2 : 200 < ns.length
 · have HX : Hid (rowE vars ns = 2) := by unfold rowE; rw [if_pos h2]; rfl
   have h2' : (200 : Int) < (ns.length : Int) := by omega
   go_enter Tryz.func55, Tryz.ntmps55
   go_wp2
   go_ret
   exact ⟨ret_int HX.out.symm, rfl⟩
 · have h2' : ¬ (200 : Int) < (ns.length : Int) := by omega
   go_enter Tryz.func55, Tryz.ntmps55
   go_wp2
   go_loopw [5] (fun i wr => ∃ k : Nat, k ≤ ns.length ∧ i = .int .i64 k ∧ Hid (∀ i (hi : i < ns.length), i < k → noneC vars ns[i] = false) ∧ wr = w) (fun i _ => ns.length - (intOf i).toNat)
   case atStart => exact ⟨0, Nat.zero_le _, rfl, fun i hi h => by omega, rfl⟩
   case round =>
     obtain ⟨k, hk, rfl, hno, rfl⟩ := hrel
     by_cases hlt : k < ns.length
     · obtain ⟨b, off, rfl, hc⟩ := HI.out (by omega)
       have hck := hc k hlt
       have hki : (k : Int) < (ns.length : Int) := by omega
       have HF := hide (row_five (vars := vars) (by omega) hlt)
       have HN : Hid (noneC vars ns[k] = false → ∀ i (hi : i < ns.length), i < k + 1 → noneC vars ns[i] = false) := by
         intro hf i hi h
         rcases Nat.lt_succ_iff_lt_or_eq.1 h with h1 | rfl
         · exact hno.out i hi h1
         · exact hf
       clear hc hno
       generalize ns[k] = x at *
       have HE : Hid (noneC vars x = (x == 0 || decide (x < -vars) || decide (vars < x))) := rfl
       by_cases hz : x = 0
       · have HX := hide (HF.out (by rw [HE.out]; simp [hz]))
         subst hz
         go_wp2
         go_ret
         exact ⟨ret_int HX.out.symm, rfl⟩
       · have hz' : (x == 0) = false := by simpa using hz
         by_cases hg : vars < x
         · have HX := hide (HF.out (by rw [HE.out]; simp [hg]))
           go_wp2
           go_ret
           exact ⟨ret_int HX.out.symm, rfl⟩
         · by_cases hs : x < -vars
           · have HX := hide (HF.out (by rw [HE.out]; simp [hs]))
             go_wp2
             go_ret
             exact ⟨ret_int HX.out.symm, rfl⟩
           · have HX := hide (HN.out (by rw [HE.out, hz']; simp [hs, hg]))
             go_wp2
             go_roundw
             case rel => exact ⟨k + 1, by omega, by go_num, HX, trivial⟩
             case measure => simp [intOf]; omega
     · have HX := hide (row_nil (vars := vars) (by omega) (fun i hi => hno.out i hi (by omega)))
       go_wp2
       go_ret
       exact ⟨ret_int HX.out.symm, rfl⟩
set_option maxHeartbeats 4000000 in
theorem checkClauses_any (vars : Int) (p : Option Addr) (cap : Nat) (rs : List Row) (hl : rs.length ≤ 8796093022208) (hin : ∀ r ∈ rs, r.ns.length ≤ maxLen) (w : World) (hC : ClAt w p rs) :
   Calls Tryz.prog 22 #[cval vars p rs.length cap] w fun e w' => e = .returned (.int .i64 (chkC vars (numsOf rs))) ∧ Below w.heap.size w w' := by
 have hB0 : Below w.heap.size w (w.alloc (.cells #[.int .i64 vars, .slice p rs.length cap] 30)) := bal (Below.refl _ _) _
 have hnl := numsOf_len rs
 have HE : Hid (chkC vars (numsOf rs) = if btw vars 0 200000 = false then 3 else if 800000 < rs.length then 2 else firstE vars (numsOf rs)) := by unfold chkC; rw [hnl]; rfl
 have HC := hide (hC.later hB0)
 have HIN := hide hin
 have HBT := hide (fun w => between_any vars 0 200000 w)
 clear hC hin
 generalize chkC vars (numsOf rs) = R at *
 cases hbt : btw vars 0 200000
 · rw [hbt] at HE HBT
   have HX : Hid (R = 3) := by rw [HE.out]; rfl
   go_enter Tryz.func22, Tryz.ntmps22
   go_wp2_with (go_at_call 21; refine (HBT.out _).mono ?_; rintro e w' ⟨rfl, rfl⟩)
   go_ret
   exact ⟨ret_int HX.out.symm, hB0⟩
 · obtain ⟨hv, hv2⟩ := btw_true.1 hbt
   rw [hbt, if_neg (by decide)] at HE
   rw [hbt] at HBT
   by_cases hm : 800000 < rs.length
   · have HX : Hid (R = 2) := by rw [HE.out, if_pos hm]; rfl
     have hm' : (800000 : Int) < (rs.length : Int) := by omega
     go_enter Tryz.func22, Tryz.ntmps22
     go_wp2_with (go_at_call 21; refine (HBT.out _).mono ?_; rintro e w' ⟨rfl, rfl⟩)
     go_ret
     exact ⟨ret_int HX.out.symm, hB0⟩
   · rw [if_neg hm] at HE
     have hm' : ¬ (800000 : Int) < (rs.length : Int) := by omega
     have b0 : (w.alloc (.cells #[.int .i64 vars, .slice p rs.length cap] 30)).cell? ⟨w.heap.size, 0, none⟩ = some (.int .i64 vars) := by simp [go_sem]
     have b1 : (w.alloc (.cells #[.int .i64 vars, .slice p rs.length cap] 30)).cell? ⟨w.heap.size, 1, none⟩ = some (.slice p rs.length cap) := by simp [go_sem]
     have HB0 := hide hB0
     clear hB0 hbt
     go_enter Tryz.func22, Tryz.ntmps22
     go_wp2_with (go_at_call 21; refine (HBT.out _).mono ?_; rintro e w' ⟨rfl, rfl⟩)
     generalize w.alloc (.cells #[.int .i64 vars, .slice p rs.length cap] 30) = w0 at *
     go_loopw [3] (fun i wr => ∃ k : Nat, k ≤ rs.length ∧ i = .int .i64 k ∧ Hid (firstE vars (numsOf rs) = firstE vars ((numsOf rs).drop k)) ∧ Below w0.heap.size w0 wr) (fun i _ => rs.length - (intOf i).toNat)
     case atStart => exact ⟨0, Nat.zero_le _, rfl, by simp [Hid], Below.refl _ _⟩
     case round =>
       obtain ⟨k, hk, rfl, hf, hbw⟩ := hrel
       have c0 := cell_later hbw b0
       have c1 := cell_later hbw b1
       have HBW := hide (bthen HB0.out hbw)
       by_cases hlt : k < rs.length
       · obtain ⟨b, off, rfl, hc⟩ := (HC.out.rows.later hbw) (by omega)
         have hck := hc k hlt
         have hki : (k : Int) < (rs.length : Int) := by omega
         have hrk : (numsOf rs)[k]'(by omega) = rs[k].ns := by simp [numsOf]
         have HD := hide (firstE_drop vars (numsOf rs) k (by omega))
         rw [hrk] at HD
         have HIR := hide ((HC.out.inn.later hbw) rs[k] (List.getElem_mem hlt))
         have hnk := HIN.out rs[k] (List.getElem_mem hlt)
         clear hc hrk
         generalize rs[k] = r at *
         obtain ⟨ra, rn, rc⟩ := r
         unfold Row.v at hck
         simp only at *
         have HCL := hide (fun (w' : World) (hb : Below wr.heap.size wr w') => checkClause_any vars hv hv2 ra rc rn hnk w' (HIR.out.later hb))
         have hbd : Below wr.heap.size wr wr.drew := (Below.refl _ wr).drew
         have HB2 := hide (bthen hbw hbd)
         clear hnk hbw
         by_cases hz : rowE vars rn = 0
         · rw [hz] at HCL HD
           have HNX : Hid (firstE vars (numsOf rs) = firstE vars ((numsOf rs).drop (k + 1))) := by rw [hf.out, HD.out]; rfl
           clear HD hf hz
           go_wp2
           go_region_held3 (fun w' => w'.cell? ⟨w.heap.size, 0, none⟩ = some (.int .i64 vars) ∧ w'.cell? ⟨w.heap.size, 1, none⟩ = some (.slice (some ⟨b, off, none⟩) rs.length cap) ∧ w'.cell? ⟨b, off + k, none⟩ = some (.slice ra rn.length rc))
             (go_keep)
             ((go_at_call 55; refine (HCL.out _ hbd).mono ?_; rintro e w' ⟨rfl, rfl⟩))
           all_goals
             go_wp2
             go_roundw
             case rel => exact ⟨k + 1, by omega, by go_num, HNX, HB2.out⟩
             case measure => simp [intOf]; omega
         · have hz' : (rowE vars rn != 0) = true := by simpa using hz
           have HX : Hid (R = rowE vars rn) := by rw [HE.out, hf.out, HD.out, if_pos hz]; rfl
           clear HD hf hz HE
           generalize rowE vars rn = Z at *
           go_wp2
           go_region_held3 (fun w' => w'.cell? ⟨w.heap.size, 0, none⟩ = some (.int .i64 vars) ∧ w'.cell? ⟨w.heap.size, 1, none⟩ = some (.slice (some ⟨b, off, none⟩) rs.length cap) ∧ w'.cell? ⟨b, off + k, none⟩ = some (.slice ra rn.length rc))
             (go_keep)
             ((go_at_call 55; refine (HCL.out _ hbd).mono ?_; rintro e w' ⟨rfl, rfl⟩))
           all_goals
             go_wp2
             go_ret
             exact ⟨ret_int HX.out.symm, HBW.out.drew⟩
       · have HX : Hid (R = 0) := by
           rw [HE.out, hf.out, List.drop_of_length_le (by omega)]; rfl
         clear HE hf
         go_wp2
         go_ret
         exact ⟨ret_int HX.out.symm, HBW.out⟩
end Go.Proofs.YtjhkecnnhddhbaaGreatDoor

namespace Go.Proofs.YtjhkecnnhddhbaaGreatDoor
open Go.RowKit Go.Maps Go.WideMaps
set_option maxRecDepth 100000
theorem bdnW {w w1 : World} (h : Below w.heap.size w w1) (n : Nat) : Below w.heap.size w (w1.drewN n) := bdn h n
set_option maxHeartbeats 4000000 in
theorem sameInts_any (p q : Option Addr) (cp cq : Nat) (l r : List Int) (hl : l.length ≤ maxLen) (hr : r.length ≤ maxLen) (w : World) (hP : IntsAt w p l) (hQ : IntsAt w q r) :
   Calls Tryz.prog 83 #[.slice p l.length cp, .slice q r.length cq] w fun e w' => e = .returned (.bool (decide (l = r))) ∧ Below w.heap.size w w' := by
 unfold maxLen at hl hr
 by_cases hlen : l.length = r.length
 · have hne : ((l.length : Int) != (r.length : Int)) = false := by simp [hlen]
   have HL := hide hlen
   clear hlen
   go_enter Tryz.func83, Tryz.ntmps83
   go_wp2
   go_loopw [5] (fun i wr => ∃ k : Nat, k ≤ l.length ∧ i = .int .i64 k ∧ Below w.heap.size w wr ∧ Hid (∀ i (h1 : i < l.length) (h2 : i < r.length), i < k → l[i] = r[i])) (fun i _ => l.length - (intOf i).toNat)
   case atStart => exact ⟨0, Nat.zero_le _, rfl, Below.refl _ _, fun i h1 h2 h => by omega⟩
   case round =>
     obtain ⟨k, hk, rfl, hbw, hz⟩ := hrel
     by_cases hlt : k < l.length
     · have hlt2 : k < r.length := by have := HL.out; omega
       obtain ⟨b, off, rfl, hc⟩ := (hP.later hbw) (by omega)
       obtain ⟨b2, off2, rfl, hc2⟩ := (hQ.later hbw) (by omega)
       have d0 := hc k hlt
       have d1 := hc2 k hlt2
       have hi1 : (k : Int) < (l.length : Int) := by omega
       have hi2 : (k : Int) < (r.length : Int) := by omega
       have HN : Hid (l[k] = r[k] → ∀ i (h1 : i < l.length) (h2 : i < r.length), i < k + 1 → l[i] = r[i]) := by
         intro h i h1 h2 hik
         rcases Nat.lt_succ_iff_lt_or_eq.1 hik with h3 | rfl
         · exact hz.out i h1 h2 h3
         · exact h
       have HD : Hid (l[k] ≠ r[k] → decide (l = r) = false) := by
         intro h
         refine decide_eq_false (fun e => h ?_)
         subst e
         rfl
       clear hc hc2 hz
       generalize l[k] = x at *
       generalize r[k] = y at *
       by_cases hxy : x = y
       · have e1 : (x != y) = false := by simp [hxy]
         have HN2 := hide (HN.out hxy)
         clear hxy HN HD
         go_wp2
         go_quiet (fail)
         go_wp2
         go_roundw
         case rel => exact ⟨k + 1, by omega, by go_num, bdnW hbw _, HN2⟩
         case measure => simp [intOf]; omega
       · have e1 : (x != y) = true := by simp [hxy]
         have HD2 := hide (HD.out hxy)
         clear hxy HN HD
         go_wp2
         go_quiet (fail)
         go_wp2
         go_ret
         exact ⟨ret_bool HD2.out.symm, bdnW hbw _⟩
     · have HD : Hid (decide (l = r) = true) := by
         refine decide_eq_true (List.ext_getElem HL.out (fun i h1 h2 => hz.out i h1 h2 (by omega)))
       clear hz
       go_wp2
       go_ret
       exact ⟨ret_bool HD.out.symm, hbw⟩
 · have hne : ((l.length : Int) != (r.length : Int)) = true := by simp; omega
   have HD : Hid (decide (l = r) = false) := decide_eq_false (fun e => hlen (by rw [e]))
   clear hlen
   go_enter Tryz.func83, Tryz.ntmps83
   go_wp2
   go_ret
   exact ⟨ret_bool HD.out.symm, Below.refl _ _⟩
set_option maxHeartbeats 4000000 in
theorem sameLists_any (p q : Option Addr) (cp cq : Nat) (l r : List Row) (hl : l.length ≤ 9000000000000000000) (hr : r.length ≤ 9000000000000000000) (hwl : ∀ x ∈ l, x.ns.length ≤ maxLen) (hwr : ∀ x ∈ r, x.ns.length ≤ maxLen) (w : World) (hP : RowsAt w p l) (hQ : RowsAt w q r) (hI : InAt w l) (hJ : InAt w r) :
   Calls Tryz.prog 60 #[.slice p l.length cp, .slice q r.length cq] w fun e w' => e = .returned (.bool (decide (l.map Row.ns = r.map Row.ns))) ∧ Below w.heap.size w w' := by
 have HP := hide hP
 have HQ := hide hQ
 have HI := hide hI
 have HJ := hide hJ
 have HWL := hide hwl
 have HWR := hide hwr
 have HS := hide (show decide (l.map Row.ns = r.map Row.ns) = decide (l.map Row.ns = r.map Row.ns) from rfl)
 generalize hR : decide (l.map Row.ns = r.map Row.ns) = R at *
 have HR := hide hR
 clear hP hQ hI hJ hwl hwr hR HS
 by_cases hlen : l.length = r.length
 · have hne : ((l.length : Int) != (r.length : Int)) = false := by simp [hlen]
   have HL := hide hlen
   clear hlen
   go_enter Tryz.func60, Tryz.ntmps60
   go_wp2
   go_loopw [5] (fun i wr => ∃ k : Nat, k ≤ l.length ∧ i = .int .i64 k ∧ Hid (∀ i (hi : i < l.length) (hj : i < r.length), i < k → l[i].ns = r[i].ns) ∧ Hid (Below w.heap.size w wr)) (fun i _ => l.length - (intOf i).toNat)
   case atStart => exact ⟨0, Nat.zero_le _, rfl, fun i hi hj h => by omega, Below.refl _ _⟩
   case round =>
     obtain ⟨k, hk, rfl, hno, HB⟩ := hrel
     by_cases hlt : k < l.length
     · have hlt2 : k < r.length := by have := HL.out; omega
       obtain ⟨b1, o1, hp1, hc1⟩ := (HP.out.later HB.out) (by omega)
       obtain ⟨b2, o2, hp2, hc2⟩ := (HQ.out.later HB.out) (by omega)
       subst hp1
       subst hp2
       have c1 := hc1 k hlt
       have c2 := hc2 k hlt2
       have hki : (k : Int) < (l.length : Int) := by omega
       have hkj : (k : Int) < (r.length : Int) := by omega
       have hk0 : (0 : Int) ≤ (k : Int) := by omega
       have HNN : Hid (l[k].ns = r[k].ns → ∀ i (hi : i < l.length) (hj : i < r.length), i < k + 1 → l[i].ns = r[i].ns) := by
         intro he i hi hj h
         rcases Nat.lt_succ_iff_lt_or_eq.1 h with h1 | rfl
         · exact hno.out i hi hj h1
         · exact he
       have HX : Hid (l[k].ns ≠ r[k].ns → R = false) := by
         intro hne
         rw [← HR.out, decide_eq_false_iff_not]
         intro e
         apply hne
         have e1 : (l.map Row.ns)[k]? = (r.map Row.ns)[k]? := by rw [e]
         rw [List.getElem?_map, List.getElem?_map, List.getElem?_eq_getElem hlt, List.getElem?_eq_getElem hlt2] at e1
         simpa using e1
       have w1 := HWL.out l[k] (List.getElem_mem hlt)
       have w2 := HWR.out r[k] (List.getElem_mem hlt2)
       have HI1 := hide (fun (w' : World) (hb : Below w.heap.size w w') => (HI.out.later hb) l[k] (List.getElem_mem hlt))
       have HI2 := hide (fun (w' : World) (hb : Below w.heap.size w w') => (HJ.out.later hb) r[k] (List.getElem_mem hlt2))
       clear hc1 hc2 hno
       generalize l[k] = x at *
       generalize r[k] = y at *
       obtain ⟨xa, xn, xc⟩ := x
       obtain ⟨ya, yn, yc⟩ := y
       unfold Row.v at c1 c2
       simp only at *
       have hbd : Below wr.heap.size wr wr.drew := (Below.refl _ wr).drew
       have HC := hide (sameInts_any xa ya xc yc xn yn w1 w2 wr.drew (HI1.out _ (bthen HB.out hbd)) (HI2.out _ (bthen HB.out hbd)))
       by_cases hxy : xn = yn
       · have HK := hide (HNN.out hxy)
         rw [decide_eq_true hxy] at HC
         clear HNN HX hxy
         go_wp2
         go_region_held3 (fun w' => w'.cell? ⟨b1, o1 + k, none⟩ = some (.slice xa xn.length xc) ∧ w'.cell? ⟨b2, o2 + k, none⟩ = some (.slice ya yn.length yc))
           (first | exact ⟨c1, c2⟩ | exact ⟨cell_later hb2 c1, cell_later hb2 c2⟩ | go_keep)
           ((go_at_call 83; refine HC.out.mono ?_; rintro e w2' ⟨rfl, hb2⟩))
         have HB2 := hide (bthen HB.out (bthen hbd hb2))
         clear hb2 hbd HC c1 c2
         go_wp2
         go_roundw
         case rel => exact ⟨k + 1, by omega, by go_num, HK, HB2⟩
         case measure => simp [intOf]; omega
       · have HK := hide (HX.out hxy)
         rw [decide_eq_false hxy] at HC
         clear HNN HX hxy
         go_wp2
         go_region_held3 (fun w' => w'.cell? ⟨b1, o1 + k, none⟩ = some (.slice xa xn.length xc) ∧ w'.cell? ⟨b2, o2 + k, none⟩ = some (.slice ya yn.length yc))
           (first | exact ⟨c1, c2⟩ | exact ⟨cell_later hb2 c1, cell_later hb2 c2⟩ | go_keep)
           ((go_at_call 83; refine HC.out.mono ?_; rintro e w2' ⟨rfl, hb2⟩))
         have HB2 := hide (bthen HB.out (bthen hbd hb2))
         clear hb2 hbd HC c1 c2
         go_wp2
         go_ret
         exact ⟨ret_bool HK.out.symm, HB2.out⟩
     · have HK : Hid (R = true) := by
         rw [Hid, ← HR.out, decide_eq_true_iff]
         refine List.ext_getElem (by simp; exact HL.out) fun i hi hj => ?_
         rw [List.getElem_map, List.getElem_map]
         exact hno.out i (by simpa using hi) (by simpa using hj) (by simp at hi; omega)
       have hki : ¬ (k : Int) < (l.length : Int) := by omega
       go_wp2
       go_ret
       exact ⟨ret_bool HK.out.symm, HB.out⟩
 · have hne : ((l.length : Int) != (r.length : Int)) = true := by simp; omega
   have HK : Hid (R = false) := by
     rw [Hid, ← HR.out, decide_eq_false_iff_not]
     intro e
     have := congrArg List.length e
     simp at this
     exact hlen this
   clear hlen
   go_enter Tryz.func60, Tryz.ntmps60
   go_wp2
   go_ret
   exact ⟨ret_bool HK.out.symm, Below.refl _ _⟩
end Go.Proofs.YtjhkecnnhddhbaaGreatDoor

namespace Go.Proofs.YtjhkecnnhddhbaaGreatDoor
open Go.RowKit Go.Maps Go.WideMaps
set_option maxRecDepth 100000
set_option maxHeartbeats 4000000 in
theorem doneC_ok (V : Int) (p : Option Addr) (cap : Nat) (rs : List Row) (hl : rs.length ≤ 8796093022208) (hin : ∀ r ∈ rs, r.ns.length ≤ maxLen) (hE : chkC V (numsOf rs) = 0) (w : World) (hC : ClAt w p rs) :
   Calls Tryz.prog 6 #[cval V p rs.length cap] w fun e w' => e = .returned (.tuple #[cval V p rs.length cap, .int .i64 0]) ∧ Below w.heap.size w w' := by
 have hB0 : Below w.heap.size w ((w.alloc (.cells #[.int .i64 V, .slice p rs.length cap] 30)).alloc (.cells #[.int .i64 0, .slice none 0 0] 30)) := bal (bal (Below.refl _ _) _) _
 have hG : ((w.alloc (.cells #[.int .i64 V, .slice p rs.length cap] 30)).alloc (.cells #[.int .i64 0, .slice none 0 0] 30)).heap[w.heap.size + 1]? = some (.cells #[.int .i64 0, .slice none 0 0] 30) := alloc_at (by simp)
 have x0 : ((w.alloc (.cells #[.int .i64 V, .slice p rs.length cap] 30)).alloc (.cells #[.int .i64 0, .slice none 0 0] 30)).cell? ⟨w.heap.size, 0, none⟩ = some (.int .i64 V) := by simp [go_sem]
 have x1 : ((w.alloc (.cells #[.int .i64 V, .slice p rs.length cap] 30)).alloc (.cells #[.int .i64 0, .slice none 0 0] 30)).cell? ⟨w.heap.size, 1, none⟩ = some (.slice p rs.length cap) := by simp [go_sem]
 have HC := hide (checkClauses_any V p cap rs hl hin _ (hC.later hB0))
 rw [hE] at HC
 have HB0 := hide hB0
 have HG := hide hG
 clear hB0 hC hG
 go_enter Tryz.func6, Tryz.ntmps6
 go_wp2_with fail
 generalize (w.alloc (.cells #[.int .i64 V, .slice p rs.length cap] 30)).alloc (.cells #[.int .i64 0, .slice none 0 0] 30) = w1 at *
 have hGl : w.heap.size + 1 < w1.heap.size := (Array.getElem?_eq_some_iff.1 HG.out).1
 refine HC.out.mono ?_
 rintro e w2 ⟨rfl, hb2⟩
 have y0 := cell_later hb2 x0
 have y1 := cell_later hb2 x1
 have HB2 := hide (bthen HB0.out hb2)
 have HR := hide (r30 ((hb2.block _ hGl).trans HG.out))
 obtain ⟨g0, g1, f0, f1⟩ := HR.out.1
 clear hb2 x0 x1 HC
 go_wp2
 refine bodyPost_ret (res30 rfl _ rfl (HR.out.2 _ _)) rfl ?_
 exact ⟨rfl, (HB2.out.setCell (p := ⟨w.heap.size + 1, 0, none⟩) (by simp) _).setCell (p := ⟨w.heap.size + 1, 1, none⟩) (by simp) _⟩
set_option maxHeartbeats 4000000 in
theorem doneC_no (V : Int) (p : Option Addr) (cap : Nat) (rs : List Row) (hl : rs.length ≤ 8796093022208) (hin : ∀ r ∈ rs, r.ns.length ≤ maxLen) (hE : chkC V (numsOf rs) ≠ 0) (w : World) (hC : ClAt w p rs) :
   Calls Tryz.prog 6 #[cval V p rs.length cap] w fun e w' => e = .returned (.tuple #[cval 0 none 0 0, .int .i64 (chkC V (numsOf rs))]) ∧ Below w.heap.size w w' := by
 have hB0 : Below w.heap.size w ((w.alloc (.cells #[.int .i64 V, .slice p rs.length cap] 30)).alloc (.cells #[.int .i64 0, .slice none 0 0] 30)) := bal (bal (Below.refl _ _) _) _
 have hG : ((w.alloc (.cells #[.int .i64 V, .slice p rs.length cap] 30)).alloc (.cells #[.int .i64 0, .slice none 0 0] 30)).heap[w.heap.size + 1]? = some (.cells #[.int .i64 0, .slice none 0 0] 30) := alloc_at (by simp)
 have x0 : ((w.alloc (.cells #[.int .i64 V, .slice p rs.length cap] 30)).alloc (.cells #[.int .i64 0, .slice none 0 0] 30)).cell? ⟨w.heap.size, 0, none⟩ = some (.int .i64 V) := by simp [go_sem]
 have x1 : ((w.alloc (.cells #[.int .i64 V, .slice p rs.length cap] 30)).alloc (.cells #[.int .i64 0, .slice none 0 0] 30)).cell? ⟨w.heap.size, 1, none⟩ = some (.slice p rs.length cap) := by simp [go_sem]
 have HC := hide (checkClauses_any V p cap rs hl hin _ (hC.later hB0))
 have hEb : (chkC V (numsOf rs) != 0) = true := by simpa using hE
 have HB0 := hide hB0
 have HG := hide hG
 clear hB0 hC hG hE
 generalize chkC V (numsOf rs) = E at *
 go_enter Tryz.func6, Tryz.ntmps6
 go_wp2_with fail
 generalize (w.alloc (.cells #[.int .i64 V, .slice p rs.length cap] 30)).alloc (.cells #[.int .i64 0, .slice none 0 0] 30) = w1 at *
 have hGl : w.heap.size + 1 < w1.heap.size := (Array.getElem?_eq_some_iff.1 HG.out).1
 refine HC.out.mono ?_
 rintro e w2 ⟨rfl, hb2⟩
 have HB2 := hide (bthen HB0.out hb2)
 have HR := hide (r30 ((hb2.block _ hGl).trans HG.out))
 obtain ⟨g0, g1, f0, f1⟩ := HR.out.1
 clear hb2 x0 x1 HC
 go_wp2
 refine bodyPost_ret (res30 rfl _ rfl (HR.out.2 _ _)) rfl ?_
 exact ⟨rfl, (HB2.out.setCell (p := ⟨w.heap.size + 1, 0, none⟩) (by simp) _).setCell (p := ⟨w.heap.size + 1, 1, none⟩) (by simp) _⟩
set_option maxHeartbeats 4000000 in
theorem sameCl_any (V : Int) (p q : Option Addr) (cp cq : Nat) (l r : List Row) (hl : l.length ≤ 9000000000000000000) (hr : r.length ≤ 9000000000000000000) (hwl : ∀ x ∈ l, x.ns.length ≤ maxLen) (hwr : ∀ x ∈ r, x.ns.length ≤ maxLen) (hn : numsOf l = numsOf r) (w : World) (hP : ClAt w p l) (hQ : ClAt w q r) :
   Calls Tryz.prog 31 #[cval V p l.length cp, cval V q r.length cq] w fun e w' => e = .returned (.bool true) ∧ Below w.heap.size w w' := by
 have hB0 : Below w.heap.size w ((w.alloc (.cells #[.int .i64 V, .slice p l.length cp] 30)).alloc (.cells #[.int .i64 V, .slice q r.length cq] 30)) := bal (bal (Below.refl _ _) _) _
 have x0 : ((w.alloc (.cells #[.int .i64 V, .slice p l.length cp] 30)).alloc (.cells #[.int .i64 V, .slice q r.length cq] 30)).cell? ⟨w.heap.size, 0, none⟩ = some (.int .i64 V) := by simp [go_sem]
 have x1 : ((w.alloc (.cells #[.int .i64 V, .slice p l.length cp] 30)).alloc (.cells #[.int .i64 V, .slice q r.length cq] 30)).cell? ⟨w.heap.size, 1, none⟩ = some (.slice p l.length cp) := by simp [go_sem]
 have y0 : ((w.alloc (.cells #[.int .i64 V, .slice p l.length cp] 30)).alloc (.cells #[.int .i64 V, .slice q r.length cq] 30)).cell? ⟨w.heap.size + 1, 0, none⟩ = some (.int .i64 V) := by simp [go_sem]
 have y1 : ((w.alloc (.cells #[.int .i64 V, .slice p l.length cp] 30)).alloc (.cells #[.int .i64 V, .slice q r.length cq] 30)).cell? ⟨w.heap.size + 1, 1, none⟩ = some (.slice q r.length cq) := by simp [go_sem]
 have HL := hide (sameLists_any p q cp cq l r hl hr hwl hwr _ (hP.later hB0).rows (hQ.later hB0).rows (hP.later hB0).inn (hQ.later hB0).inn)
 rw [show decide (l.map Row.ns = r.map Row.ns) = true from decide_eq_true hn] at HL
 have HB0 := hide hB0
 clear hB0 hP hQ hn
 go_enter Tryz.func31, Tryz.ntmps31
 go_wp2_with fail
 generalize (w.alloc (.cells #[.int .i64 V, .slice p l.length cp] 30)).alloc (.cells #[.int .i64 V, .slice q r.length cq] 30) = w1 at *
 refine HL.out.mono ?_
 rintro e w2 ⟨rfl, hb2⟩
 have HB2 := hide (bthen HB0.out hb2)
 clear hb2 HL
 go_wp2
 go_ret
 exact ⟨rfl, HB2.out⟩
set_option maxHeartbeats 4000000 in
theorem are_any (E V V2 : Int) (p q : Option Addr) (cp cq : Nat) (l r : List Row) (hl : l.length ≤ 9000000000000000000) (hr : r.length ≤ 9000000000000000000) (hwl : ∀ x ∈ l, x.ns.length ≤ maxLen) (hwr : ∀ x ∈ r, x.ns.length ≤ maxLen)
   (hno : E ≠ 0 → V = 0 ∧ numsOf l = []) (hok : E = 0 → V = V2 ∧ numsOf l = numsOf r) (w : World) (hP : ClAt w p l) (hQ : ClAt w q r) :
   Calls Tryz.prog 9 #[cval V p l.length cp, .int .i64 E, .int .i64 E, cval V2 q r.length cq] w fun e w' => e = .returned (.bool true) ∧ Below w.heap.size w w' := by
 have hB0 : Below w.heap.size w ((w.alloc (.cells #[.int .i64 V, .slice p l.length cp] 30)).alloc (.cells #[.int .i64 V2, .slice q r.length cq] 30)) := bal (bal (Below.refl _ _) _) _
 by_cases hE : E = 0
 · obtain ⟨rfl, hn⟩ := hok hE
   subst hE
   have HL := hide (sameCl_any V p q cp cq l r hl hr hwl hwr hn _ (hP.later hB0) (hQ.later hB0))
   have HB0 := hide hB0
   clear hB0 hP hQ hn hno hok
   go_enter Tryz.func9, Tryz.ntmps9
   go_wp2_with fail
   refine HL.out.mono ?_
   rintro e w2 ⟨rfl, hb2⟩
   have HB2 := hide (bthen HB0.out hb2)
   clear hb2 HL
   go_wp2
   go_ret
   exact ⟨rfl, HB2.out⟩
 · obtain ⟨rfl, hn⟩ := hno hE
   have hEb : (E != 0) = true := by simpa using hE
   have hb1 : Below w.heap.size w ((w.alloc (.cells #[.int .i64 0, .slice p l.length cp] 30)).alloc (.cells #[.int .i64 0, .slice none 0 0] 30)) := bal (bal (Below.refl _ _) _) _
   have HL := hide (sameCl_any 0 p none cp 0 l [] hl (by simp) hwl (fun x hx => by cases hx) hn _ (hP.later hb1) (clAt_nil _))
   have HB0 := hide hb1
   clear hP hQ hn hno hok hb1
   go_enter Tryz.func9, Tryz.ntmps9
   go_wp2_with fail
   refine HL.out.mono ?_
   rintro e w2 ⟨rfl, hb2⟩
   have HB2 := hide (bthen HB0.out hb2)
   clear hb2 HL
   go_wp2
   go_ret
   exact ⟨rfl, HB2.out⟩
end Go.Proofs.YtjhkecnnhddhbaaGreatDoor

namespace Go.Proofs.YtjhkecnnhddhbaaGreatDoor
open Go.RowKit Go.Maps Go.WideMaps
set_option maxRecDepth 100000
theorem own_append_i {w : World} {base n : Nat} {vp : Value} {xs : List Int} {y : Int} (h : w.ownsRow base 3 1 vp n (xs.map (Value.int .i64))) (hb : base ≤ w.heap.size) (hl : n ≤ 3000000) :
   ∃ p c w', (Builtin.append_ #[25, 25] 25 #[vp, .slice (some ⟨w.heap.size, 0, none⟩) 1 1]).run Tryz.prog (w.alloc (.cells #[.int .i64 y] 3)) = .ok (.slice p (n + 1) c) w' ∧ w'.ownsRow base 3 1 (.slice p (n + 1) c) (n + 1) ((xs ++ [y]).map (Value.int .i64)) ∧ (w.alloc (.cells #[.int .i64 y] 3)).grownBy w' vp.ownBlock := by
 obtain ⟨i0, hi, hz0, hz1, hz2⟩ := info_parts info3
 obtain ⟨vp', w', hr, ho, hg, _⟩ := run_append_own (P := Tryz.prog) (w := w.alloc (.cells #[.int .i64 y] 3)) base 25 25 3 i0 (.int .i64 0) 1 8 Tryz.underlying25 hi hz0 hz1 hz2 rfl (by decide) vp n _ (h.alloc (.cells #[.int .i64 y] 3)) ⟨w.heap.size, 0, none⟩ 1 1 [.int .i64 y] rfl
   (fun j u hj => by
     match j, hj with
     | 0, hj => simp at hj; subst hj; simp [go_sem, Addr.add]) (fun u hu => by simp at hu; subst hu; rfl) (by unfold maxLen; omega) (by omega) (by simp; omega)
 have ho' : w'.ownsRow base 3 1 vp' (n + 1) ((xs ++ [y]).map (Value.int .i64)) := by simpa using ho
 rcases ho'.2 with ⟨_, h0⟩ | ⟨g, cap, cur, rfl, _⟩
 · omega
 · exact ⟨_, cap, w', hr, ho', hg⟩
theorem own_app_below {wc w8 w9 : World} {n : Nat} {vp : Value} {xs : List Value} {o : Obj} (h : w8.ownsRow wc.heap.size 3 1 vp n xs) (hb : Below wc.heap.size wc w8) (hg : (w8.alloc o).grownBy w9 vp.ownBlock) : Below wc.heap.size wc w9 :=
 (bal hb o).grown hg (by have := hb.size; simp; omega) (fun k hk => (h.lt k hk).1)
theorem own_apart {w1 wc wr : World} {M : Nat} {V : Int} {L : List (List Int)} {n : Nat} {xs : List Value} {pl : Option Addr} {cl : Nat} {v : Value} {rs : List Row} {a : Addr} (_hs : Sc w1 wc M V L) (h : wr.ownsRow wc.heap.size 3 1 (.slice pl n cl) n xs) (_hb : Below wc.heap.size wc wr)
   (hc : Cm wr M M v V rs) (ha : pl = some a) (e : v.ownBlock = some a.block) : False := by
 subst ha
 rcases h.2 with ⟨e1, _⟩ | ⟨g, cap, cur, e1, _, hh, _⟩
 · cases e1
 · rcases hc.row.2 with ⟨e2, _⟩ | ⟨g2, cap2, cur2, e2, _, hh2, _⟩
   · subst e2; simp [Value.ownBlock] at e
   · subst e2
     cases e1
     have e3 : g2 = g := by simpa [Value.ownBlock] using e
     rw [e3, hh] at hh2
     cases hh2
theorem step_appR {P : Program} {w : World} {ops : Array Oper} {o : Oper} {a : Act} {K : Act → World → Prop} {Q : Exit → Act → World → Prop} {E : Prop} (hgd : o.guard = none) (s x : Operand) (t tn : TypeId) (ho : o.op = .call { callee := .builtin .append, args := #[s, x], argTypes := #[t, tn] }) (vs vx : Value) (hs : a.eval s = vs) (hx : a.eval x = vx) (v' : Value) (w' : World) (hr : (Builtin.append_ #[t, tn] o.type #[vs, vx]).run P w = .ok v' w') (h : K (a.put o.dst v') w') : if Region.wanted o (yielded ops a.tmps) = true then Oper.wp P o a w K Q else E := by
 rw [if_pos (by simp [Region.wanted, hgd])]
 exact Lib.wp_append_run w s x t tn ho vs vx hs hx v' w' hr h
section
set_option maxHeartbeats 16000000 in
theorem st_bad {code : Code} (hcode : code = (((Tryz.f7.body).bind (findSeq 37)).getD .skip)) {r0 r5 r6 r7 r13 r14 r15 r16 r17 r18 r19 r20 r21 r22 r23 r24 r25 r26 r27 r28 r29 r30 r31 r32 r33 r34 r35 r36 r37 r38 r39 r40 r41 r42 r43 r44 r45 r46 r47 r48 r49 r50 r51 r52 r53 r54 r55 r56 r57 r58 r59 r60 r61 r62 r63 r64 r65 r66 r67 r68 r69 r70 r71 r72 r73 r74 r75 r76 r77 r78 r79 r80 r81 r82 r83 r84 r85 r86 r87 r88 r89 r90 r91 r92 r93 r94 r95 r96 r97 r98 r99 r100 r101 r102 r103 r104 r105 r106 r107 r108 r109 r110 r111 r112 r113 r114 r115 r116 r117 r118 r119 r120 r121 r122 r123 r124 r125 r126 r127 r128 r129 r130 r131 r132 r133 r134 r135 r136 r137 r138 r139 r140 r141 r142 r143 r144 r145 r146 r147 r148 r149 r150 r151 r152 r153 r154 r155 r156 r157 r158 r159 r160 r161 r162 r163 r164 r165 r166 r167 r168 r169 r170 r171 r172 r173 r174 r175 r176 r177 r178 r179 r180 r181 r182 r183 r184 r185 r186 r187 r188 r189 r190 r191 r192 r193 r194 r195 r196 r197 r198 r199 r200 r201 r202 r203 r204 r205 r206 r207 r208 r209 r210 r211 r212 r213 r214 r215 r216 r217 r218 r219 r220 r221 r222 r223 r224 r225 r226 r227 r228 r229 r230 r231 r232 r233 r234 r235 r236 r237 r238 r239 r240 r241 r242 r243 r244 r245 r246 r247 r248 r249 r250 r251 r252 r253 r254 r255 r256 r257 r258 r259 r260 r261 r262 r263 r264 r265 r266 r267 r268 r269 r270 r271 r272 r273 r274 r275 r276 r277 r278 r279 r280 r281 r282 r283 r284 r285 r286 r287 r288 r289 r290 r291 r292 r293 r294 r295 r296 r297 r298 r299 r300 r301 r302 r303 r304 r305 r306 r307 r308 r309 r310 r311 r312 r313 r314 r315 r316 r317 : Value} (w w1 : World) (B G F M : Nat) (C : Ci) (last : Nat) (begun : Bool) (V : Int) (L : List (List Int)) (wc : World) (HX : Hid (Fx w w1 B G F M C last)) (HS : Hid (Sc w1 wc M V L)) (HL : Hid (L.length ≤ 1000000000)) :
   Code.wp Tryz.prog code (bodyPost Tryz.prog Tryz.f7 (StO w V (L ++ badC C last))) ⟨#[r0, .int .i64 last, .bool begun, .bool false, .pointer (some ⟨B, 0, none⟩), r5, r6, r7, .pointer (some ⟨G, 0, none⟩), .pointer (some ⟨F, 0, none⟩), .pointer (some ⟨M, 0, none⟩), .func (.func 23) #[] #[.pointer (some ⟨M, 0, none⟩)], .func (.func 24) #[] #[.pointer (some ⟨F, 0, none⟩), .pointer (some ⟨B, 0, none⟩)], r13, r14, r15, r16, r17, r18, r19, r20, r21, r22, r23, r24, r25, r26, r27, r28, r29, r30, r31, r32, r33, r34, r35, r36, r37, r38, r39, r40, r41, r42, r43, r44, r45, r46, r47, r48, r49, r50, r51, r52, r53, r54, r55, r56, r57, r58, r59, r60, r61, r62, r63, r64, r65, r66, r67, r68, r69, r70, r71, r72, r73, r74, r75, r76, r77, r78, r79, r80, r81, r82, r83, r84, r85, r86, r87, r88, r89, r90, r91, r92, r93, r94, r95, r96, r97, r98, r99, r100, r101, r102, r103, r104, r105, r106, r107, r108, r109, r110, r111, r112, r113, r114, r115, r116, r117, r118, r119, r120, r121, r122, r123, r124, r125, r126, r127, r128, r129, r130, r131, r132, r133, r134, r135, r136, r137, r138, r139, r140, r141, r142, r143, r144, r145, r146, r147, r148, r149, r150, r151, r152, r153, r154, r155, r156, r157, r158, r159, r160, r161, r162, r163, r164, r165, r166, r167, r168, r169, r170, r171, r172, r173, r174, r175, r176, r177, r178, r179, r180, r181, r182, r183, r184, r185, r186, r187, r188, r189, r190, r191, r192, r193, r194, r195, r196, r197, r198, r199, r200, r201, r202, r203, r204, r205, r206, r207, r208, r209, r210, r211, r212, r213, r214, r215, r216, r217, r218, r219, r220, r221, r222, r223, r224, r225, r226, r227, r228, r229, r230, r231, r232, r233, r234, r235, r236, r237, r238, r239, r240, r241, r242, r243, r244, r245, r246, r247, r248, r249, r250, r251, r252, r253, r254, r255, r256, r257, r258, r259, r260, r261, r262, r263, r264, r265, r266, r267, r268, r269, r270, r271, r272, r273, r274, r275, r276, r277, r278, r279, r280, r281, r282, r283, r284, r285, r286, r287, r288, r289, r290, r291, r292, r293, r294, r295, r296, r297, r298, r299, r300, r301, r302, r303, r304, r305, r306, r307, r308, r309, r310, r311, r312, r313, r314, r315, r316, r317], []⟩ wc := by
 subst hcode
 conv => arg 2; whnf
 dsimp only
 have hfy := HX.out.at HS.out.bel
 have hok := HX.out.ok
 have hbl := hok.bl
 have htf := hok.tf (Nat.le_refl last)
 have hnb := hok.nb
 have hff := hok.f0
 have HHAS := hide (hasP_any 1 C.b.ns C.b.at' C.b.cap (by omega) wc hfy.at'.b)
 have HBI := hide hfy.at'.b
 have HHH : Hid (badC C last = if (1 : Int) ∈ C.b.ns then [] else [badN C last C.b.ns.length]) := rfl
 generalize badC C last = LB at *
 have y6 := hfy.x6
 have yf := hfy.xf
 clear hfy hok
 by_cases h1 : (1 : Int) ∈ C.b.ns
 · have HE : Hid (LB = []) := by unfold Hid; rw [HHH.out, if_pos h1]
   rw [show decide ((1 : Int) ∈ C.b.ns) = true by simpa using h1] at HHAS
   clear h1 HHH
   have HS9 : Hid (Sc w1 wc M V (L ++ LB)) := by rw [HE.out, List.append_nil]; exact HS.out
   clear HS HE
   go_wp2_with fail
   refine HHAS.out.mono ?_
   rintro e w2 ⟨rfl, hw2⟩
   obtain rfl : wc = w2 := hw2.symm
   clear hw2 HHAS
   obtain ⟨pz, nz, cz, m0, m1, g0, g1, f0, f1, gh, HO⟩ := stO_of HX.out HS9.out
   have GH := hide gh
   have HOO := hide HO
   clear gh HO
   go_wp2
   refine bodyPost_ret (results_cell_row rfl _ _ G 30 _ _ _ rfl GH.out Tryz.underlying30 rfl (by kernel_rfl)) rfl ?_
   exact HOO.out
 · have HE : Hid (LB = [badN C last C.b.ns.length]) := by unfold Hid; rw [HHH.out, if_neg h1]
   rw [show decide ((1 : Int) ∈ C.b.ns) = false by simpa using h1] at HHAS
   have HB2 : Hid (∀ k (h : k < C.b.ns.length), C.b.ns[k] ≠ 1) := fun k h e => h1 (e ▸ List.getElem_mem h)
   have HSU : Hid (∀ k (h : k < C.b.ns.length), badN C last (k + 1) = if C.b.ns[k] = 0 then badN C last k else badN C last k ++ [numL (atL C.f last C.b.ns[k])]) := fun k h => by
     have := badN_succ C last k h
     rw [show C.b.ns.getD k 0 = C.b.ns[k] by simp [List.getD, List.getElem?_eq_getElem h]] at this
     exact this
   have HLN : Hid (∀ k, (badN C last k).length ≤ k) := fun k => badN_len C last k
   have HNB : Hid (∀ k (h : k < C.b.ns.length), 0 ≤ C.b.ns[k] ∧ C.b.ns[k] < 2 * (1 + C.f)) := fun k h => hnb _ (List.getElem_mem h)
   clear h1 HHH hnb
   have wmul := wrap_id (x := (last : Int) * C.f) (by omega) (by omega)
   go_wp2_with fail
   refine HHAS.out.mono ?_
   rintro e w2 ⟨rfl, hw2⟩
   obtain rfl : wc = w2 := hw2.symm
   clear hw2 HHAS
   go_wp2
   go_loopw [20, 21] (fun l i wr => ∃ k : Nat, k ≤ C.b.ns.length ∧ i = .int .i64 k ∧ Hid (∃ xs : List Int, xs = badN C last k ∧ wr.ownsRow wc.heap.size 3 1 l xs.length (xs.map (Value.int .i64)) ∧ Below wc.heap.size wc wr)) (fun _ i _ => C.b.ns.length - (intOf i).toNat)
   case atStart => exact ⟨0, Nat.zero_le _, rfl, [], by simp [badN], World.ownsRow_nil _ _ _ _, Below.refl _ _⟩
   case round =>
     obtain ⟨k, hk, rfl, HR⟩ := hrel
     obtain ⟨xs, hxs, hrow, hbw⟩ := HR.out
     have z6 := cell_later hbw y6
     have zf := cell_later hbw yf
     have hxl : xs.length ≤ 2000000 := by rw [hxs]; have := HLN.out k; omega
     have HXS := hide hxs
     have HBW := hide hbw
     have HROW := hide hrow
     obtain ⟨pl, cl, rfl, hil, _⟩ := owns_ints hrow
     clear HR hxs hrow
     by_cases hlt : k < C.b.ns.length
     · have hki : (k : Int) < (C.b.ns.length : Int) := by omega
       obtain ⟨bb, bo, hbe, hbc⟩ := HBI.out (by omega)
       have ck0 := hbc k hlt
       have ck := cell_later hbw ck0
       have hS := HSU.out k hlt
       have hnk := HNB.out k hlt
       have hn1 := HB2.out k hlt
       have HBE := hide hbe
       rw [hbe] at z6
       clear hbc hil hbe
       generalize C.b.ns[k] = x at *
       by_cases hx0 : x = 0
       · have HX2 : Hid (xs = badN C last (k + 1)) := by unfold Hid; rw [HXS.out, hS, if_pos hx0]
         subst hx0
         clear hS HXS hnk hn1
         go_wp2
         go_roundw
         case rel => exact ⟨k + 1, by omega, by go_num, xs, HX2.out, HROW.out, HBW.out⟩
         case measure => simp [intOf]; omega
       · have hx0b : (x != 0) = true := by simpa using hx0
         have HNU := hide (fun u : World => ((numP_any x (last * C.f) hnk.1 (by omega) htf.1 (by omega) u).mono fun e w' (h : e = .returned (.int .i64 (numP x (last * C.f))) ∧ w' = u) => (⟨h.1, h.2 ▸ Below.refl _ _⟩ : e = .returned (.int .i64 (numP x (last * C.f))) ∧ Below u.heap.size u w')))
         have HX2 : Hid (xs ++ [numP x (last * C.f)] = badN C last (k + 1)) := by unfold Hid; rw [HXS.out, hS, if_neg hx0, numP_at C.f last x (by omega)]
         have hbd : Below wr.heap.size wr wr.drew := (Below.refl _ wr).drew
         generalize numP x (last * C.f) = y at *
         clear hS HXS hnk hn1 hx0
         rw [HBE.out] at y6
         go_wp2
         go_region_held3 (fun w' => w'.cell? ⟨B, 6, none⟩ = some (.slice (some ⟨bb, bo, none⟩) C.b.ns.length C.b.cap) ∧ w'.cell? ⟨bb, bo + k, none⟩ = some (.int .i64 x) ∧ w'.cell? ⟨F, 0, none⟩ = some (.int .i64 C.f))
           (first | exact ⟨cell_later HB9.out y6, cell_later HB9.out ck0, cell_later HB9.out yf⟩ | exact ⟨past1 (cell_later hb8 z6) _, past1 (cell_later hb8 ck) _, past1 (cell_later hb8 zf) _⟩ | exact ⟨cell_later hb8 z6, cell_later hb8 ck, cell_later hb8 zf⟩ | exact ⟨cell_later hbd z6, cell_later hbd ck, cell_later hbd zf⟩ | go_keep)
           ((first | (go_at_call 26; refine (HNU.out _).mono ?_; rintro e w8 ⟨rfl, hb8'⟩; have hb8 : Below wr.heap.size wr w8 := bthen hbd hb8'
                      obtain ⟨p9, c9, w9, hrun9, ho9, hg9⟩ := own_append_i (y := y) (owns_below HROW.out hb8) (by have := HBW.out.size; have := hb8.size; omega) (by omega)
                      have HB9 : Hid (Below wc.heap.size wc w9) := own_app_below (owns_below HROW.out hb8) (bthen HBW.out hb8) hg9
                      have HO9 := hide ho9) | (refine step_appR rfl _ _ _ _ rfl _ _ rfl rfl _ _ hrun9 ?_)))
         all_goals
           rename_i hHeld
           clear hHeld hrun9 ho9 hg9 hb8 hb8' z6 zf ck
           go_wp2
           go_roundw
           case rel =>
             exact ⟨k + 1, by omega, by go_num, xs ++ [y], HX2.out, by simpa using HO9.out, HB9.out⟩
           case measure => simp [intOf]; omega
     · obtain rfl : k = C.b.ns.length := by omega
       have HS7 := hide (HS.out.later hbw)
       obtain ⟨v7, rs7, hn7, hc7, hbm7⟩ := HS7.out
       have HAL := hide (bal (Below.refl wr.heap.size wr) (.cells #[.slice pl xs.length cl] 25))
       have hM := HS.out.lt
       have hsz := hbw.size
       have HLB : Hid (numsOf rs7 ++ numsOf [⟨pl, xs, cl⟩] = L ++ LB) := by unfold Hid; rw [hn7, HE.out, ← HXS.out]; rfl
       obtain ⟨pv, cv, rfl, _⟩ := owns_rows hc7.row
       have hsum : rs7.length + [(⟨pl, xs, cl⟩ : Row)].length ≤ 2000000000 := by
         have h1 : rs7.length = L.length := by rw [← hn7, numsOf_len]
         have h2 := HL.out
         simp only [List.length_cons, List.length_nil]
         omega
       have hap := sc_rows (w1 := w1) (p := some ⟨wr.heap.size, 0, none⟩) (cap := 1) (rs2 := [⟨pl, xs, cl⟩]) (hc7.below HAL.out) (hbm7.trans (HAL.out.mono (by omega))) (hsum)
         (fun _ => ⟨_, _, rfl, fun i hi => by
           match i, hi with
           | 0, _ => simp [go_sem, Row.v]⟩) (fun r hr => by simp at hr; subst hr; exact hil.later HAL.out) (fun r hr a ha => by
           simp at hr
           subst hr
           simp only at ha
           have h2 := HROW.out.lt a.block (by subst ha; simp [Value.ownBlock])
           refine ⟨by omega, fun e => ?_, by simp; omega, by omega⟩
           have h3 := hc7.row
           have hb7 := HS.out
           exact own_apart HS.out HROW.out hbw hc7 ha e)
       rw [HLB.out] at hap
       obtain ⟨p9, n9, c9, w9, hrun9, k1, kf, hsc9, hbm9⟩ := hap
       have HS9 := hide hsc9
       have m1 := hc7.c1
       clear hsc9 hbm9 HS7 hc7 hn7 hbm7 hil hbw
       simp only [List.length_cons, List.length_nil, Nat.zero_add] at hrun9
       go_upto_region 45 with (at_builtin; refine Lib.wpList_append_run _ rfl _ _ _ _ rfl _ _ rfl rfl _ _ hrun9 ?_)
       generalize w9.setCell ⟨M, 1, none⟩ (.slice p9 n9 c9) = wz at *
       clear hrun9 k1 kf m1 z6 zf y6 yf
       obtain ⟨pz, nz, cz, m0, m1, g0, g1, f0, f1, gh, HO⟩ := stO_of HX.out HS9.out
       have GH := hide gh
       have HOO := hide HO
       clear gh HO
       go_wp2
       refine bodyPost_ret (results_cell_row rfl _ _ G 30 _ _ _ rfl GH.out Tryz.underlying30 rfl (by kernel_rfl)) rfl ?_
       exact HOO.out
end
end Go.Proofs.YtjhkecnnhddhbaaGreatDoor
