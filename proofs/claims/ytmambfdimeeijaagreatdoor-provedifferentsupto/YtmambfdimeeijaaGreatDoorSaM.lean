/- The plain texts of steps: CheckSteps walked. -/
import Derived.Test.YtmambfdimeeijaaGreatDoorBbM
import Derived.Laws.OwnMore
import Derived.Test.YtmambfdimeeijaaGreatDoorTcM
import Derived.Deep.RegionLaw
import Derived.Deep.AppendLies
namespace Go.Proofs.YtmambfdimeeijaaGreatDoor
open Go.RowKit Go.Maps Go.WideMaps
set_option maxRecDepth 100000
def ckE (C : Ci) (steps : Int) (begun : Bool) : Int := stE (if C.e = 0 ∧ ¬ (0 ≤ steps ∧ steps ≤ 40) then 3 else C.e) begun C.i.ns
set_option maxHeartbeats 4000000 in
theorem checkSteps_any (C : Ci) (steps : Int) (begun : Bool) (w : World) (hC : CIn w C) :
   Calls Tryz.prog 5 #[C.v, .int .i64 steps, .bool begun] w fun e w' => e = .returned (.int .i64 (ckE C steps begun)) ∧ Below w.heap.size w w' := by
 have hb1 : Below w.heap.size w (w.alloc (.cells #[.int .i64 C.ins, .slice C.p C.ps.length C.cap, .int .i64 C.a, .int .i64 C.s, C.i.v, C.n.v, C.b.v, C.h.v] 27)) := bal (Below.refl _ _) _
 have x4 : (w.alloc (.cells #[.int .i64 C.ins, .slice C.p C.ps.length C.cap, .int .i64 C.a, .int .i64 C.s, C.i.v, C.n.v, C.b.v, C.h.v] 27)).cell? ⟨w.heap.size, 4, none⟩ = some C.i.v := by simp [go_sem]
 have HIN := hide (hC.later hb1)
 have HCK := hide (plainB_any C.ins C.p C.cap C.ps hC.wf hC.pl C.a C.s hC.wa hC.ws C.i C.n C.b C.h hC.il hC.nl (Nat.le_trans hC.bl (by decide)) (Nat.le_trans hC.hl (by decide)) _ HIN.out.at')
 have HB1 := hide hb1
 have hil := hC.il
 unfold maxLen at hil
 have HE : Hid (ckE C steps begun = stE (if C.e = 0 ∧ ¬ (0 ≤ steps ∧ steps ≤ 40) then 3 else C.e) begun C.i.ns) := rfl
 have HCE : Hid (cirE C.ins C.ps C.a C.s C.i.ns C.n.ns C.b.ns C.h.ns = C.e) := rfl
 rw [HCE.out] at HCK
 generalize ckE C steps begun = R at *
 generalize C.e = e0 at *
 clear hb1 hC HCE
 simp only [Sl.v, Ci.v, circ] at *
 go_enter Tryz.func5, Tryz.ntmps5
 go_wp2_with fail
 refine HCK.out.mono ?_
 rintro e w2 ⟨rfl, hb2⟩
 have y4 := cell_later hb2 x4
 have HII := hide (HIN.out.at'.i.later hb2)
 have HB2 := hide (bthen HB1.out hb2)
 clear HCK hb2 x4 HIN HB1
 have HBT := hide (between_any steps 0 40)
 have hkeep : ∃ e1 : Int, Hid (R = stE e1 begun C.i.ns) ∧ Hid (e1 = if e0 = 0 ∧ ¬ (0 ≤ steps ∧ steps ≤ 40) then 3 else e0) := ⟨_, HE, rfl⟩
 obtain ⟨e1, HR, HS⟩ := hkeep
 clear HE
 have hsplit : (e0 = 0 ∧ btw steps 0 40 = true) ∨ (e0 = 0 ∧ btw steps 0 40 = false) ∨ ¬ e0 = 0 := by
   by_cases h : e0 = 0
   · cases hb : btw steps 0 40
     · exact .inr (.inl ⟨h, rfl⟩)
     · exact .inl ⟨h, rfl⟩
   · exact .inr (.inr h)
 rcases hsplit with ⟨rfl, hb⟩ | ⟨rfl, hb⟩ | he
 · have HS1 : Hid (e1 = 0) := by unfold Hid; rw [HS.out, if_neg (fun h => h.2 (btw_true.1 hb))]
   rw [hb] at HBT
   clear HS hb
   go_wp2_with fail
   refine (HBT.out _).mono ?_
   rintro e w3 ⟨rfl, hw3⟩
   obtain rfl : w2 = w3 := hw3.symm
   clear hw3 HBT
   go_wp2
   go_loopw [7, 8] (fun e i wr => ∃ k : Nat, k ≤ C.i.ns.length ∧ i = .int .i64 k ∧ e = .int .i64 (stE e1 begun (C.i.ns.take k)) ∧ wr = w2) (fun _ i _ => C.i.ns.length - (intOf i).toNat)
   case atStart => exact ⟨0, Nat.zero_le _, rfl, by rw [List.take_zero, stE_nil, HS1.out], rfl⟩
   case round =>
     obtain ⟨k, hk, rfl, rfl, hwr⟩ := hrel
     obtain rfl : w2 = wr := hwr.symm
     by_cases hlt : k < C.i.ns.length
     · have hki : (k : Int) < (C.i.ns.length : Int) := by omega
       by_cases hek : stE e1 begun (C.i.ns.take k) = 0
       · have HST := hide (stE_step hlt hek)
         obtain ⟨ib, io, hie, hic⟩ := HII.out (by omega)
         have c0 := hic k hlt
         rw [hie] at y4
         rw [hek]
         clear hic hek
         generalize C.i.ns[k] = x at *
         cases begun with
         | false =>
           have HX : Hid (stE e1 false (C.i.ns.take (k + 1)) = 0) := HST.out
           clear HST
           go_wp2
           go_roundw
           case rel => exact ⟨k + 1, by omega, by go_num, by rw [HX.out], trivial⟩
           case measure => simp [intOf]; omega
         | true =>
           by_cases hx : 1 < x
           · have HX : Hid (stE e1 true (C.i.ns.take (k + 1)) = 7) := by unfold Hid; rw [HST.out, if_pos (by simpa using hx)]
             clear HST
             go_wp2
             go_roundw
             case rel => exact ⟨k + 1, by omega, by go_num, by rw [HX.out], trivial⟩
             case measure => simp [intOf]; omega
           · have HX : Hid (stE e1 true (C.i.ns.take (k + 1)) = 0) := by unfold Hid; rw [HST.out, if_neg (by simpa using hx)]
             clear HST
             go_wp2
             go_roundw
             case rel => exact ⟨k + 1, by omega, by go_num, by rw [HX.out], trivial⟩
             case measure => simp [intOf]; omega
       · have HX : Hid (stE e1 begun (C.i.ns.take k) = R) := by unfold Hid; rw [HR.out, stE_stay hek]
         have hekb : (stE e1 begun (C.i.ns.take k) == 0) = false := by simpa using hek
         clear hek
         generalize stE e1 begun (C.i.ns.take k) = ek at *
         go_wp2
         go_ret
         exact ⟨ret_int HX.out, HB2.out⟩
     · obtain rfl : k = C.i.ns.length := by omega
       have HX : Hid (stE e1 begun (C.i.ns.take C.i.ns.length) = R) := by unfold Hid; rw [HR.out, List.take_length]
       generalize stE e1 begun (C.i.ns.take C.i.ns.length) = ek at *
       go_wp2
       go_ret
       exact ⟨ret_int HX.out, HB2.out⟩
 · have HS1 : Hid (e1 = 3) := by unfold Hid; rw [HS.out, if_pos ⟨rfl, btw_false.1 hb⟩]
   rw [hb] at HBT
   clear HS hb
   go_wp2_with fail
   refine (HBT.out _).mono ?_
   rintro e w3 ⟨rfl, hw3⟩
   obtain rfl : w2 = w3 := hw3.symm
   clear hw3 HBT
   go_wp2
   go_loopw [7, 8] (fun e i wr => ∃ k : Nat, k ≤ C.i.ns.length ∧ i = .int .i64 k ∧ e = .int .i64 (stE e1 begun (C.i.ns.take k)) ∧ wr = w2) (fun _ i _ => C.i.ns.length - (intOf i).toNat)
   case atStart => exact ⟨0, Nat.zero_le _, rfl, by rw [List.take_zero, stE_nil, HS1.out], rfl⟩
   case round =>
     obtain ⟨k, hk, rfl, rfl, hwr⟩ := hrel
     obtain rfl : w2 = wr := hwr.symm
     by_cases hlt : k < C.i.ns.length
     · have hki : (k : Int) < (C.i.ns.length : Int) := by omega
       by_cases hek : stE e1 begun (C.i.ns.take k) = 0
       · have HST := hide (stE_step hlt hek)
         obtain ⟨ib, io, hie, hic⟩ := HII.out (by omega)
         have c0 := hic k hlt
         rw [hie] at y4
         rw [hek]
         clear hic hek
         generalize C.i.ns[k] = x at *
         cases begun with
         | false =>
           have HX : Hid (stE e1 false (C.i.ns.take (k + 1)) = 0) := HST.out
           clear HST
           go_wp2
           go_roundw
           case rel => exact ⟨k + 1, by omega, by go_num, by rw [HX.out], trivial⟩
           case measure => simp [intOf]; omega
         | true =>
           by_cases hx : 1 < x
           · have HX : Hid (stE e1 true (C.i.ns.take (k + 1)) = 7) := by unfold Hid; rw [HST.out, if_pos (by simpa using hx)]
             clear HST
             go_wp2
             go_roundw
             case rel => exact ⟨k + 1, by omega, by go_num, by rw [HX.out], trivial⟩
             case measure => simp [intOf]; omega
           · have HX : Hid (stE e1 true (C.i.ns.take (k + 1)) = 0) := by unfold Hid; rw [HST.out, if_neg (by simpa using hx)]
             clear HST
             go_wp2
             go_roundw
             case rel => exact ⟨k + 1, by omega, by go_num, by rw [HX.out], trivial⟩
             case measure => simp [intOf]; omega
       · have HX : Hid (stE e1 begun (C.i.ns.take k) = R) := by unfold Hid; rw [HR.out, stE_stay hek]
         have hekb : (stE e1 begun (C.i.ns.take k) == 0) = false := by simpa using hek
         clear hek
         generalize stE e1 begun (C.i.ns.take k) = ek at *
         go_wp2
         go_ret
         exact ⟨ret_int HX.out, HB2.out⟩
     · obtain rfl : k = C.i.ns.length := by omega
       have HX : Hid (stE e1 begun (C.i.ns.take C.i.ns.length) = R) := by unfold Hid; rw [HR.out, List.take_length]
       generalize stE e1 begun (C.i.ns.take C.i.ns.length) = ek at *
       go_wp2
       go_ret
       exact ⟨ret_int HX.out, HB2.out⟩
 · have heb : (e0 == 0) = false := by simpa using he
   have HS1 : Hid (e1 = e0) := by unfold Hid; rw [HS.out, if_neg (fun h => he h.1)]
   clear HS HBT
   go_wp2
   go_loopw [7, 8] (fun e i wr => ∃ k : Nat, k ≤ C.i.ns.length ∧ i = .int .i64 k ∧ e = .int .i64 (stE e1 begun (C.i.ns.take k)) ∧ wr = w2) (fun _ i _ => C.i.ns.length - (intOf i).toNat)
   case atStart => exact ⟨0, Nat.zero_le _, rfl, by rw [List.take_zero, stE_nil, HS1.out], rfl⟩
   case round =>
     obtain ⟨k, hk, rfl, rfl, hwr⟩ := hrel
     obtain rfl : w2 = wr := hwr.symm
     by_cases hlt : k < C.i.ns.length
     · have hki : (k : Int) < (C.i.ns.length : Int) := by omega
       by_cases hek : stE e1 begun (C.i.ns.take k) = 0
       · have HST := hide (stE_step hlt hek)
         obtain ⟨ib, io, hie, hic⟩ := HII.out (by omega)
         have c0 := hic k hlt
         rw [hie] at y4
         rw [hek]
         clear hic hek
         generalize C.i.ns[k] = x at *
         cases begun with
         | false =>
           have HX : Hid (stE e1 false (C.i.ns.take (k + 1)) = 0) := HST.out
           clear HST
           go_wp2
           go_roundw
           case rel => exact ⟨k + 1, by omega, by go_num, by rw [HX.out], trivial⟩
           case measure => simp [intOf]; omega
         | true =>
           by_cases hx : 1 < x
           · have HX : Hid (stE e1 true (C.i.ns.take (k + 1)) = 7) := by unfold Hid; rw [HST.out, if_pos (by simpa using hx)]
             clear HST
             go_wp2
             go_roundw
             case rel => exact ⟨k + 1, by omega, by go_num, by rw [HX.out], trivial⟩
             case measure => simp [intOf]; omega
           · have HX : Hid (stE e1 true (C.i.ns.take (k + 1)) = 0) := by unfold Hid; rw [HST.out, if_neg (by simpa using hx)]
             clear HST
             go_wp2
             go_roundw
             case rel => exact ⟨k + 1, by omega, by go_num, by rw [HX.out], trivial⟩
             case measure => simp [intOf]; omega
       · have HX : Hid (stE e1 begun (C.i.ns.take k) = R) := by unfold Hid; rw [HR.out, stE_stay hek]
         have hekb : (stE e1 begun (C.i.ns.take k) == 0) = false := by simpa using hek
         clear hek
         generalize stE e1 begun (C.i.ns.take k) = ek at *
         go_wp2
         go_ret
         exact ⟨ret_int HX.out, HB2.out⟩
     · obtain rfl : k = C.i.ns.length := by omega
       have HX : Hid (stE e1 begun (C.i.ns.take C.i.ns.length) = R) := by unfold Hid; rw [HR.out, List.take_length]
       generalize stE e1 begun (C.i.ns.take C.i.ns.length) = ek at *
       go_wp2
       go_ret
       exact ⟨ret_int HX.out, HB2.out⟩
end Go.Proofs.YtmambfdimeeijaaGreatDoor

namespace Go.Proofs.YtmambfdimeeijaaGreatDoor
open Go.RowKit Go.Maps Go.WideMaps
set_option maxRecDepth 100000
theorem blk_cell {w1 w2 : World} {a : Addr} {v : Value} (h : w1.cell? a = some v) (hb : w2.heap[a.block]? = w1.heap[a.block]?) : w2.cell? a = some v := by
 rw [World.cell?_of_block (w := w1) (a := a) hb]; exact h
def Sc (w1 wr : World) (M : Nat) (V : Int) (L : List (List Int)) : Prop := ∃ v rs, numsOf rs = L ∧ Cm wr M M v V rs ∧ Below M w1 wr
theorem Sc.lt {w1 wr : World} {M : Nat} {V : Int} {L : List (List Int)} (h : Sc w1 wr M V L) : M < wr.heap.size := by
 obtain ⟨v, rs, _, hc, _⟩ := h
 exact World.block_lt_of_cell? _ _ hc.c1
theorem Sc.later {w1 wr w2 : World} {M : Nat} {V : Int} {L : List (List Int)} (h : Sc w1 wr M V L) (hb : Below wr.heap.size wr w2) : Sc w1 w2 M V L := by
 have hlt := h.lt
 obtain ⟨v, rs, hn, hc, hw⟩ := h
 exact ⟨v, rs, hn, hc.below hb, hw.trans (hb.mono (Nat.le_of_lt hlt))⟩
theorem Sc.bel {w1 wr : World} {M : Nat} {V : Int} {L : List (List Int)} (h : Sc w1 wr M V L) : Below M w1 wr := h.choose_spec.choose_spec.2.2
theorem add_rows {w w2 : World} {base M : Nat} {v v' : Value} {vars : Int} {rs rs2 : List Row} (hmk : Cm w base M v vars rs)
   (hr : InAt w rs2) (hrf : ∀ r ∈ rs2, ∀ a, r.at' = some a → a.block ≠ M ∧ v.ownBlock ≠ some a.block ∧ a.block < w.heap.size ∧ base ≤ a.block)
   (hg : w.grownBy w2 v.ownBlock) (hrow : w2.ownsRow base 25 1 v' (rs ++ rs2).length ((rs ++ rs2).map Row.v)) (hat : v'.ownBlock = v.ownBlock ∨ v'.ownBlock = some w.heap.size) :
   Cm (w2.setCell ⟨M, 1, none⟩ v') base M v' vars (rs ++ rs2) := by
 have hM := World.block_lt_of_cell? _ _ hmk.c1
 simp only at hM
 have hfar : ∀ k, k < w.heap.size → v.ownBlock ≠ some k → v'.ownBlock ≠ some k := fun k hk h e => by
   rcases hat with h2 | h2
   · exact h (h2 ▸ e)
   · rw [h2] at e; cases e; omega
 have hgM : v'.ownBlock ≠ some M := hfar M hM hmk.nv
 have k0 := hg.cell hmk.c0 (fun e => hmk.nv e.symm)
 have k1 := hg.cell hmk.c1 (fun e => hmk.nv e.symm)
 have kf : ∀ j x, w.cell? ⟨M, j, none⟩ = some x → w.frozen? ⟨M, j, none⟩ = false → w2.frozen? ⟨M, j, none⟩ = false := fun j x h1 h2 => by
   rw [grown_frozen hg h1 (fun e => hmk.nv e.symm)]
   exact h2
 have hsz2 : w.heap.size ≤ w2.heap.size := hg.size
 have hIn : ∀ q : Row, IntsAt w q.at' q.ns → (∀ a, q.at' = some a → a.block ≠ M ∧ v.ownBlock ≠ some a.block) → IntsAt (w2.setCell ⟨M, 1, none⟩ v') q.at' q.ns := fun q h1 h2 =>
   (h1.grownBy hg (fun a ha e => (h2 a ha).2 e.symm)).set _ _ (fun a ha => (h2 a ha).1)
 have hFar : ∀ q : Row, (∀ a, q.at' = some a → a.block ≠ M ∧ v.ownBlock ≠ some a.block ∧ a.block < w.heap.size ∧ base ≤ a.block) → ∀ a, q.at' = some a → a.block ≠ M ∧ v'.ownBlock ≠ some a.block ∧ a.block < w2.heap.size ∧ base ≤ a.block := fun q h a ha => by
   obtain ⟨h1, h2, h3, h5⟩ := h a ha
   exact ⟨h1, hfar _ h3 h2, by omega, h5⟩
 refine ⟨?_, ?_, ?_, ?_, ?_, ?_, hmk.hM, hgM, ?_⟩
 · rw [World.cell?_setCell_other w2 _ _ _ (by simp)]; exact k0
 · exact World.cell?_setCell_same w2 _ _ k1
 · rw [World.frozen?_setCell]; exact kf _ _ hmk.c0 hmk.f0
 · rw [World.frozen?_setCell]; exact kf _ _ hmk.c1 hmk.f1
 · exact owns_set hrow hgM
 · intro q hq
   rcases List.mem_append.1 hq with h | h
   · exact hIn q (hmk.inn q h) (fun a ha => ⟨(hmk.far q h a ha).1, (hmk.far q h a ha).2.1⟩)
   · exact hIn q (hr q h) (fun a ha => ⟨(hrf q h a ha).1, (hrf q h a ha).2.1⟩)
 · intro q hq a ha
   rw [show (w2.setCell ⟨M, 1, none⟩ v').heap.size = w2.heap.size by simp]
   rcases List.mem_append.1 hq with h | h
   · exact hFar q (hmk.far q h) a ha
   · exact hFar q (hrf q h) a ha
theorem run_append_nil {w : World} (base : Nat) (t ty e : TypeId) (i : TypeInfo) (size : Nat) (ht : Tryz.prog.underlying t = some (.slice e)) (hi : Tryz.prog.info? e = some i)
   (v : Value) (n c : Nat) (xs : List Value) (hown : w.ownsRow base e size v n xs) :
   (Builtin.append_ #[t, t] ty #[v, .slice none 0 c]).run Tryz.prog w = .ok v w := by
 rcases hown.2 with ⟨rfl, rfl⟩ | ⟨g, cap, cur, rfl, _, _, hnc, _⟩
 · simp [Builtin.append_, run_underlying ht, sizeOf, typeInfo, hi, Builtin.lenOf, Builtin.firstCells]
 · simp [Builtin.append_, run_underlying ht, sizeOf, typeInfo, hi, Builtin.lenOf, Builtin.firstCells, hnc, storeCells]
def Ap (w1 w5 : World) (M : Nat) (V : Int) (v : Value) (p : Option Addr) (n cap : Nat) (L : List (List Int)) : Prop :=
 ∃ p9 n9 c9 w9, (Builtin.append_ #[28, 28] 28 #[v, .slice p n cap]).run Tryz.prog w5 = .ok (.slice p9 n9 c9) w9 ∧ w9.cell? ⟨M, 1, none⟩ = some v ∧ w9.frozen? ⟨M, 1, none⟩ = false ∧ Sc w1 (w9.setCell ⟨M, 1, none⟩ (.slice p9 n9 c9)) M V L ∧ Below M w1 w9
theorem sc_rows {w1 w5 : World} {M : Nat} {V : Int} {p : Option Addr} {cap : Nat} {rs rs2 : List Row} {v : Value} (hc : Cm w5 M M v V rs) (hb : Below M w1 w5) (hl : rs.length + rs2.length ≤ 2000000000)
   (hp : RowsAt w5 p rs2) (hi : InAt w5 rs2) (hf : ∀ r ∈ rs2, ∀ a, r.at' = some a → a.block ≠ M ∧ v.ownBlock ≠ some a.block ∧ a.block < w5.heap.size ∧ M ≤ a.block) : Ap w1 w5 M V v p rs2.length cap (numsOf rs ++ numsOf rs2) := by
 obtain ⟨i0, hi0, hz0, hz1, hz2⟩ := info_parts infoR
 have hM := World.block_lt_of_cell? _ _ hc.c1
 simp only at hM
 have key : ∃ v9 w9, (Builtin.append_ #[28, 28] 28 #[v, .slice p rs2.length cap]).run Tryz.prog w5 = .ok v9 w9 ∧ w9.ownsRow M 25 1 v9 (rs ++ rs2).length ((rs ++ rs2).map Row.v) ∧ w5.grownBy w9 v.ownBlock ∧ (v9.ownBlock = v.ownBlock ∨ v9.ownBlock = some w5.heap.size) := by
   rw [List.length_append, List.map_append]
   cases p with
   | none =>
     have h0 : rs2 = [] := by
       cases rs2 with
       | nil => rfl
       | cons r t => obtain ⟨b, off, h, _⟩ := hp (by simp); cases h
     subst h0
     exact ⟨v, w5, run_append_nil M 28 28 25 i0 1 Tryz.underlying28 hi0 v rs.length cap _ hc.row, by simpa using hc.row, ⟨rfl, rfl, rfl, Nat.le_refl _, fun _ _ _ => rfl⟩, .inl rfl⟩
   | some ad =>
     obtain ⟨v9, w9, hr, ho, hg, _, hat⟩ := run_append_own_at (P := Tryz.prog) w5 M 28 28 25 i0 (.slice none 0 0) 1 24 Tryz.underlying28 hi0 hz0 hz1 hz2 rfl (by decide) v rs.length (rs.map Row.v) hc.row ad rs2.length cap (rs2.map Row.v) (by simp)
       (fun j u hj => by
         rw [List.getElem?_map] at hj
         cases hq : rs2[j]? with
         | none => rw [hq] at hj; cases hj
         | some r =>
           rw [hq] at hj
           obtain ⟨hjl, hje⟩ := List.getElem?_eq_some_iff.1 hq
           obtain ⟨b, off, e, hcs⟩ := hp (by omega)
           cases e
           have := hcs j hjl
           rw [hje] at this
           cases hj
           unfold Addr.add
           by_cases h0 : j = 0
           · subst h0; simpa using this
           · simpa [h0] using this)
       (fun u hu => by obtain ⟨r, _, rfl⟩ := List.mem_map.1 hu; rfl) (by unfold maxLen; omega) (by omega) (Nat.le_of_lt hM)
     exact ⟨v9, w9, hr, ho, hg, hat⟩
 obtain ⟨v9, w9, hr, ho, hg, hat⟩ := key
 obtain ⟨p9, c9, rfl, _⟩ := owns_rows ho
 have hbw : Below M w1 w9 := hb.grown hg (Nat.le_of_lt hM) (fun k hk => (hc.row.lt k hk).1)
 refine ⟨p9, _, c9, w9, hr, hg.cell hc.c1 (fun e => hc.nv e.symm), ?_, ⟨_, rs ++ rs2, by simp [numsOf], add_rows hc hi hf hg ho hat, Below.setCell (p := ⟨M, 1, none⟩) hbw (Nat.le_refl _) _⟩, hbw⟩
 rw [grown_frozen hg hc.c1 (fun e => hc.nv e.symm)]
 exact hc.f1
theorem sc_new {w1 wr w5 : World} {M : Nat} {V : Int} {L2 : List (List Int)} {rs : List Row} {v : Value} {e : Ending} (hc : Cm wr M M v V rs) (hb : Below M w1 wr) (hl : rs.length + L2.length ≤ 2000000000) (h : NewRows wr L2 e w5) :
   ∃ p n cap, e = .returned (.slice p n cap) ∧ Cm w5 M M v V rs ∧ Below wr.heap.size wr w5 ∧ Ap w1 w5 M V v p n cap (numsOf rs ++ L2) := by
 have hM := World.block_lt_of_cell? _ _ hc.c1
 simp only at hM
 obtain ⟨p, cap, rs2, he, hn, hp, hi, hf, hpf, hb5⟩ := h
 have hc5 := hc.below hb5
 have hl2 : rs2.length = L2.length := by rw [← hn, List.length_map]
 have := sc_rows (w1 := w1) (cap := cap) hc5 (hb.trans (hb5.mono (Nat.le_of_lt hM))) (by omega) hp hi (fun r hr a ha => by
   have h1 := hf r hr a ha
   refine ⟨by omega, fun e => ?_, h1.2, by omega⟩
   have := (hc.row.lt _ e).2
   omega)
 rw [show numsOf rs2 = L2 from hn] at this
 exact ⟨p, rs2.length, cap, he, hc5, hb5, this⟩
end Go.Proofs.YtmambfdimeeijaaGreatDoor

namespace Go.Proofs.YtmambfdimeeijaaGreatDoor
open Go.RowKit Go.Maps Go.WideMaps
set_option maxRecDepth 100000
set_option maxRecDepth 100000 in
set_option maxHeartbeats 4000000 in
theorem addF_any (base M : Nat) (v : Value) (vars : Int) (rs : List Row) (hrs : rs.length ≤ 4000000) (l : List Int) (hl : l.length ≤ 100000000) (q : Option Addr) (qc : Nat) (w : World) (hbs : base ≤ w.heap.size) (hmk : Cm w base M v vars rs) (hI : IntsAt w q l) :
   Calls Tryz.prog 56 #[.pointer (some ⟨M, 0, none⟩), .slice q l.length qc] w fun e w' => e = .returned (.tuple #[]) ∧ ∃ v' r, r.ns = l ∧ Cm w' base M v' vars (rs ++ [r]) ∧ Below base w w' ∧ Kp M w v w' v' ∧ ∀ a, r.at' = some a → w.heap.size ≤ a.block := by
 have HCL : Hid (∀ w1, Below w.heap.size w w1 → Calls Tryz.prog 84 #[.slice q l.length qc] w1 fun e w' => ∃ (pr : Option Addr) (cr : Nat), e = .returned (.slice pr l.length cr) ∧ IntsAt w' pr l ∧ (∀ a, pr = some a → w1.heap.size ≤ a.block ∧ a.block < w'.heap.size) ∧ Below w1.heap.size w1 w') :=
   fun w1 hb => (cloneI_any q qc l (by omega) w1 (hI.later hb)).mono fun e w' ⟨u, he, ho, hb⟩ => by
     have hlt := ho.lt
     obtain ⟨pv, cv, rfl, h1, _⟩ := owns_ints ho
     refine ⟨pv, cv, he, h1, fun a ha => ?_, hb⟩
     cases ha
     have := hlt a.block (by simp [Value.ownBlock])
     exact this
 obtain ⟨i0, hi, hz0, hz1, hz2⟩ := info_parts infoR
 obtain ⟨pv, cv, rfl, _⟩ := owns_rows hmk.row
 have m1 := hmk.c1
 have f1 := hmk.f1
 have HMK := hide hmk
 have HIN := hide (And.intro hi (And.intro hz0 (And.intro hz1 hz2)))
 have hlt0 := World.block_lt_of_cell? _ _ hmk.c1
 simp only at hlt0
 clear hI hmk hi hz0 hz1 hz2
 go_enter Tryz.func56, Tryz.ntmps56
 go_wp2
 go_region_law (first
   | (go_simp; go_at_call 84; refine (HCL.out _ (Below.refl _ _).drew).mono ?_; rintro e w1 ⟨pr, cr, rfl, hri, hrb, hb1⟩; have hmk1 := HMK.out.below (show Below w.heap.size w w1 from (Below.refl _ w).drew.trans hb1); have m1' := hmk1.c1; have f1' := hmk1.f1; have HMK1 := hide hmk1; have hM1 := World.block_lt_of_cell? _ _ m1'; simp only at hM1; have hM2 := World.new_ne w1 ⟨M, 1, none⟩ m1'; simp only at hM2; clear hmk1)
   | (refine step_append_lies _ rfl (.tmp 9) (.tmp 12) 28 rfl base 25 i0 (.slice none 0 0) 1 24 Tryz.underlying28 HIN.out.1 HIN.out.2.1 HIN.out.2.2.1 HIN.out.2.2.2 rfl (by decide) _ rs.length (rs.map Row.v) (by simp [Act.eval]) (HMK1.out.row.alloc _) ⟨w1.heap.size, 0, none⟩ 1 1 [(Row.mk pr l cr).v] (by simp [Act.eval]) rfl (one_news ⟨pr, l, cr⟩ w1) (one_cell ⟨pr, l, cr⟩) (by decide) (by unfold maxLen; omega) (by omega) (by simp; have := hb1.size; simp at this; omega) (w1.heap.size + 1) (by simp) ?_
      intro g cap w2 hown2 hg2 hat2 hlt2
      have g1 := hg2.cell (a := ⟨M, 1, none⟩) (past1 m1' _) (fun e => HMK1.out.nv e.symm)
      have f2 : w2.frozen? ⟨M, 1, none⟩ = false := (grown_frozen hg2 (past1 m1' _) (fun e => HMK1.out.nv e.symm)).trans (((bal (Below.refl _ _) _).frozen (World.block_lt_of_cell? _ _ m1')).trans f1')))
 all_goals
   have hmem := add_memC (r := ⟨pr, l, cr⟩) (by have := hb1.size; simp at this; omega) HMK1.out hri (fun a ha => by
     have h1 := hrb a ha
     simp at h1
     refine ⟨by omega, fun e => ?_, h1.2, by omega⟩
     have := (HMK.out.row.lt _ e).2
     omega) hg2 hown2 hat2
   have HMM := hide hmem
   have HB0 : Hid (Below w.heap.size w w1) := (Below.refl _ w).drew.trans (show Below w.heap.size w.drew w1 from hb1)
   have HB : Hid (Below base w w1) := HB0.out.mono hbs
   clear hmem
   go_end0
   exact ⟨rfl, _, _, rfl, HMM.out.1, HMM.out.2.1 _ HB.out, (Kp.later HB0.out).trans HMM.out.2.2, fun a ha => by have := (hrb a ha).1; simpa using this⟩
theorem owns_grown {w w' : World} {base e size n : Nat} {v : Value} {xs : List Value} {ob : Option Nat} (h : w.ownsRow base e size v n xs) (hg : w.grownBy w' ob) (h2 : ∀ g, v.ownBlock = some g → ob ≠ some g) : w'.ownsRow base e size v n xs := by
 refine ⟨h.1, ?_⟩
 rcases h.2 with ⟨rfl, h0⟩ | ⟨g, cap, cur, rfl, hb, hh, hn, hm, hs, ht⟩
 · exact .inl ⟨rfl, h0⟩
 · refine .inr ⟨g, cap, cur, rfl, hb, ?_, hn, hm, hs, ht⟩
   rw [hg.block g (Array.getElem?_eq_some_iff.1 hh).1 (fun e => h2 g rfl e.symm)]
   exact hh
theorem owns_kp {w w' : World} {base e size n : Nat} {s v v' : Value} {M : Nat} {xs : List Value} (h : w.ownsRow base e size s n xs) (hk : Kp M w v w' v') (h2 : ∀ g, s.ownBlock = some g → g ≠ M ∧ v.ownBlock ≠ some g) : w'.ownsRow base e size s n xs := by
 refine ⟨h.1, ?_⟩
 rcases h.2 with ⟨rfl, h0⟩ | ⟨g, cap, cur, rfl, hb, hh, hn, hm, hs, ht⟩
 · exact .inl ⟨rfl, h0⟩
 · refine .inr ⟨g, cap, cur, rfl, hb, ?_, hn, hm, hs, ht⟩
   obtain ⟨h3, h4⟩ := h2 g rfl
   rw [(hk.blk g (Array.getElem?_eq_some_iff.1 hh).1 h3 h4).1]
   exact hh
structure Sm (w1 w : World) (M : Nat) (v : Value) (rs : List Row) (s : Value) (xs : List Int) : Prop where
 own : w.ownsRow w1.heap.size 3 1 s xs.length (xs.map (Value.int .i64))
 ap : ∀ g, s.ownBlock = some g → g ≠ M ∧ v.ownBlock ≠ some g ∧ ∀ r ∈ rs, ∀ a, r.at' = some a → a.block ≠ g
theorem sm_nil (w1 w : World) (M : Nat) (v : Value) (rs : List Row) : Sm w1 w M v rs (.slice none 0 0) [] := ⟨World.ownsRow_nil _ _ _ _, fun g hg => by cases hg⟩
theorem Sm.later {w1 w w' : World} {M : Nat} {v s : Value} {rs : List Row} {xs : List Int} (h : Sm w1 w M v rs s xs) (hb : Below w.heap.size w w') : Sm w1 w' M v rs s xs := ⟨owns_below h.own hb, h.ap⟩
theorem Sm.setV {w1 w : World} {M : Nat} {v s : Value} {rs : List Row} {xs : List Int} (h : Sm w1 w M v rs s xs) (x : Value) : Sm w1 (w.setCell ⟨M, 0, none⟩ x) M v rs s xs := ⟨owns_set h.own (fun e => (h.ap M e).1 rfl), h.ap⟩
theorem Sm.add {w1 w w' : World} {M : Nat} {v v' s : Value} {rs : List Row} {r : Row} {xs : List Int} (h : Sm w1 w M v rs s xs) (hk : Kp M w v w' v') (hr : ∀ a, r.at' = some a → w.heap.size ≤ a.block) : Sm w1 w' M v' (rs ++ [r]) s xs := by
 refine ⟨owns_kp h.own hk (fun g hg => ⟨(h.ap g hg).1, (h.ap g hg).2.1⟩), fun g hg => ?_⟩
 obtain ⟨h1, h2, h3⟩ := h.ap g hg
 have hlt := (h.own.lt g hg).2
 refine ⟨h1, (hk.blk g hlt h1 h2).2, fun q hq a ha => ?_⟩
 rcases List.mem_append.1 hq with k | k
 · exact h3 q k a ha
 · rw [List.mem_singleton.1 k] at ha
   have := hr a ha
   omega
theorem Cm.grown {w w' : World} {base M : Nat} {v : Value} {vars : Int} {rs : List Row} {ob : Option Nat} (h : Cm w base M v vars rs) (hg : w.grownBy w' ob) (h1 : ob ≠ some M) (h2 : ∀ g, v.ownBlock = some g → ob ≠ some g) (h3 : ∀ r ∈ rs, ∀ a, r.at' = some a → ob ≠ some a.block) : Cm w' base M v vars rs :=
 ⟨hg.cell h.c0 (fun e => h1 e.symm), hg.cell h.c1 (fun e => h1 e.symm), (grown_frozen hg h.c0 (fun e => h1 e.symm)).trans h.f0, (grown_frozen hg h.c1 (fun e => h1 e.symm)).trans h.f1, owns_grown h.row hg h2,
   fun r hr => (h.inn r hr).grownBy hg (fun a ha e => h3 r hr a ha e.symm), h.hM, h.nv, fun r hr a ha => by
     obtain ⟨k1, k2, k3, k4⟩ := h.far r hr a ha
     exact ⟨k1, k2, Nat.lt_of_lt_of_le k3 hg.size, k4⟩⟩
theorem Kp.grown {w1 w w' : World} {M : Nat} {v v' : Value} {ob : Option Nat} (h : Kp M w1 v w v') (hg : w.grownBy w' ob) (h1 : ∀ g, ob = some g → w1.heap.size ≤ g) : Kp M w1 v w' v' :=
 ⟨Nat.le_trans h.sz hg.size, fun q x hq k0 k1 k2 => ⟨hg.cell (h.keep q x hq k0 k1 k2).1 (fun e => by have := h1 _ e.symm; have := World.block_lt_of_cell? _ _ hq; omega), (h.keep q x hq k0 k1 k2).2⟩,
   fun g hl hm hv => ⟨(hg.block g (Nat.lt_of_lt_of_le hl h.sz) (fun e => by have := h1 g e.symm; omega)).trans (h.blk g hl hm hv).1, (h.blk g hl hm hv).2⟩⟩
theorem Un.grown {w0 w1 w w' : World} {M : Nat} {v0 v : Value} {vars : Int} {rs : List Row} {C : Ci} {last : Nat} {ob : Option Nat} (h : Un w0 w M v vars rs C last) (hk : Kp M w1 v0 w v) (hu : UnC w1 M C last) (hn : v0.ownBlock ≠ some M) (hb : w0.heap.size ≤ w1.heap.size) (hg : w.grownBy w' ob) (h1 : ∀ g, ob = some g → w1.heap.size ≤ g ∧ g ≠ M ∧ v.ownBlock ≠ some g ∧ ∀ r ∈ rs, ∀ a, r.at' = some a → a.block ≠ g) : Un w0 w' M v vars rs C last :=
 ⟨h.cm.grown hg (fun e => (h1 M e).2.1 rfl) (fun g hv e => (h1 g e).2.2.1 hv) (fun r hr a ha e => (h1 _ e).2.2.2 r hr a ha rfl), hu.kp hn (hk.grown hg (fun g e => (h1 g e).1)), h.bl.grown hg h.bl.size (fun k hk => Nat.le_trans hb (h1 k hk).1)⟩
theorem own_append_at {w : World} {base n : Nat} {vp : Value} {xs : List Int} {y : Int} (h : w.ownsRow base 3 1 vp n (xs.map (Value.int .i64))) (hb : base ≤ w.heap.size) (hl : n ≤ 3000000) :
   ∃ p c w', (Builtin.append_ #[25, 25] 25 #[vp, .slice (some ⟨w.heap.size, 0, none⟩) 1 1]).run Tryz.prog (w.alloc (.cells #[.int .i64 y] 3)) = .ok (.slice p (n + 1) c) w' ∧ w'.ownsRow base 3 1 (.slice p (n + 1) c) (n + 1) ((xs ++ [y]).map (Value.int .i64)) ∧ (w.alloc (.cells #[.int .i64 y] 3)).grownBy w' vp.ownBlock ∧ (Value.ownBlock (.slice p (n + 1) c) = vp.ownBlock ∨ Value.ownBlock (.slice p (n + 1) c) = some (w.heap.size + 1)) := by
 obtain ⟨i0, hi, hz0, hz1, hz2⟩ := info_parts info3
 obtain ⟨vp', w', hr, ho, hg, _, hat⟩ := run_append_own_at (P := Tryz.prog) (w.alloc (.cells #[.int .i64 y] 3)) base 25 25 3 i0 (.int .i64 0) 1 8 Tryz.underlying25 hi hz0 hz1 hz2 rfl (by decide) vp n _ (h.alloc (.cells #[.int .i64 y] 3)) ⟨w.heap.size, 0, none⟩ 1 1 [.int .i64 y] rfl
   (fun j u hj => by
     match j, hj with
     | 0, hj => simp at hj; subst hj; simp [go_sem, Addr.add]) (fun u hu => by simp at hu; subst hu; rfl) (by unfold maxLen; omega) (by omega) (by simp; omega)
 have ho' : w'.ownsRow base 3 1 vp' (n + 1) ((xs ++ [y]).map (Value.int .i64)) := by simpa using ho
 rcases ho'.2 with ⟨_, h0⟩ | ⟨g, cap, cur, rfl, _⟩
 · omega
 · exact ⟨_, cap, w', hr, ho', hg, by simpa using hat⟩
theorem sm_push {w0 w1 w w' : World} {M : Nat} {v0 v s : Value} {vars : Int} {rs : List Row} {xs : List Int} {y : Int} {C : Ci} {last : Nat} {p : Option Addr} {c : Nat} (h : Sm w1 w M v rs s xs) (hU : Un w0 w M v vars rs C last) (hk : Kp M w1 v0 w v) (hu : UnC w1 M C last) (hn : v0.ownBlock ≠ some M) (hb : w0.heap.size ≤ w1.heap.size)
   (ho : w'.ownsRow w1.heap.size 3 1 (.slice p (xs.length + 1) c) (xs.length + 1) ((xs ++ [y]).map (Value.int .i64))) (hg : (w.alloc (.cells #[.int .i64 y] 3)).grownBy w' s.ownBlock) (hat : Value.ownBlock (.slice p (xs.length + 1) c) = s.ownBlock ∨ Value.ownBlock (.slice p (xs.length + 1) c) = some (w.heap.size + 1)) :
   Sm w1 w' M v rs (.slice p (xs.length + 1) c) (xs ++ [y]) ∧ Un w0 w' M v vars rs C last ∧ Kp M w1 v0 w' v := by
 have hal : Below w.heap.size w (w.alloc (.cells #[.int .i64 y] 3)) := bal (Below.refl _ _) _
 have hM := World.block_lt_of_cell? _ _ hU.cm.c0
 simp only at hM
 have hbl : ∀ g, s.ownBlock = some g → w1.heap.size ≤ g := fun g e => (h.own.lt g e).1
 have hkA := hk.trans (Kp.later hal)
 refine ⟨⟨by rw [List.length_append]; exact ho, fun g hg2 => ?_⟩, (hU.later hal).grown hkA hu hn hb hg (fun g e => ⟨hbl g e, h.ap g e⟩), hkA.grown hg hbl⟩
 rcases hat with e | e
 · exact h.ap g (e ▸ hg2)
 · rw [e] at hg2
   cases hg2
   refine ⟨by omega, fun e2 => ?_, fun r hr a ha => ?_⟩
   · have := (hU.cm.row.lt _ e2).2; omega
   · have := (hU.cm.far r hr a ha).2.2.1; omega
end Go.Proofs.YtmambfdimeeijaaGreatDoor
