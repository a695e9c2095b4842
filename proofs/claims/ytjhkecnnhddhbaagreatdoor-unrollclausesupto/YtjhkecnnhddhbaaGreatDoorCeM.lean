/- Clauses of gates: lists of lists in memory; the maker adds a clause. -/
import Derived.Test.YtjhkecnnhddhbaaGreatDoorCaM
import Derived.Deep.RegionLaw
import Derived.Deep.AppendLies
namespace Go.Proofs.YtjhkecnnhddhbaaGreatDoor
open Go.RowKit Go.Maps Go.WideMaps
set_option maxRecDepth 100000
structure Row where
 at' : Option Addr
 ns : List Int
 cap : Nat
def Row.v (r : Row) : Value := .slice r.at' r.ns.length r.cap
def RowsAt (w : World) (p : Option Addr) (l : List Row) : Prop := 0 < l.length → ∃ b off, p = some ⟨b, off, none⟩ ∧ ∀ i (hi : i < l.length), w.cell? ⟨b, off + i, none⟩ = some l[i].v
theorem RowsAt.later {w w' : World} {p : Option Addr} {l : List Row} (h : RowsAt w p l) (hb : Below w.heap.size w w') : RowsAt w' p l := fun h0 => by
 obtain ⟨b, off, h1, h2⟩ := h h0
 exact ⟨b, off, h1, fun i hi => cell_later hb (h2 i hi)⟩
def InAt (w : World) (l : List Row) : Prop := ∀ r ∈ l, IntsAt w r.at' r.ns
theorem InAt.later {w w' : World} {l : List Row} (h : InAt w l) (hb : Below w.heap.size w w') : InAt w' l := fun r hr => (h r hr).later hb
theorem IntsAt.grownBy {w w1 : World} {row : Option Nat} {p : Option Addr} {l : List Int} (h : IntsAt w p l) (hg : w.grownBy w1 row) (hne : ∀ a, p = some a → some a.block ≠ row) : IntsAt w1 p l := by
 intro h0
 obtain ⟨b, off, e, hc⟩ := h h0
 exact ⟨b, off, e, fun i hi => hg.cell (hc i hi) (hne ⟨b, off, none⟩ e)⟩
theorem IntsAt.set {w : World} {p : Option Addr} {l : List Int} (h : IntsAt w p l) (q : Addr) (u : Value) (hne : ∀ a, p = some a → a.block ≠ q.block) : IntsAt (w.setCell q u) p l := by
 intro h0
 obtain ⟨b, off, e, hc⟩ := h h0
 exact ⟨b, off, e, fun i hi => cell_set_far (hc i hi) (hne ⟨b, off, none⟩ e)⟩
theorem number_any (x : Int) (h : 0 ≤ x) (h2 : x ≤ 10000000) (w : World) :
   Calls Tryz.prog 48 #[.int .i64 x] w fun e w' => e = .returned (.int .i64 (numL x)) ∧ w' = w := by
 have HE : Hid (numL x = if odd x = true then -(x / 2) else x / 2) := rfl
 generalize numL x = R at *
 cases ho : odd x
 · have HR : Hid (R = x / 2) := by rw [HE.out, ho]; rfl
   have HT := hide (isTurned_any x h (by omega) w)
   rw [ho] at HT
   clear HE ho
   go_enter Tryz.func48, Tryz.ntmps48
   go_wp2_with (first | (go_at_call 70; refine HT.out.mono ?_; rintro e w' ⟨rfl, rfl⟩) | (go_at_call 17; refine (node_any _ (by omega) (by omega) _).mono ?_; rintro e w' ⟨rfl, rfl⟩))
   go_ret
   exact ⟨ret_int HR.out.symm, rfl⟩
 · have HR : Hid (R = -(x / 2)) := by rw [HE.out, ho]; rfl
   have HT := hide (isTurned_any x h (by omega) w)
   rw [ho] at HT
   clear HE ho
   go_enter Tryz.func48, Tryz.ntmps48
   go_wp2_with (first | (go_at_call 70; refine HT.out.mono ?_; rintro e w' ⟨rfl, rfl⟩) | (go_at_call 17; refine (node_any _ (by omega) (by omega) _).mono ?_; rintro e w' ⟨rfl, rfl⟩))
   go_ret
   exact ⟨ret_int HR.out.symm, rfl⟩
set_option maxHeartbeats 1000000 in
theorem cloneI_any (p : Option Addr) (cap : Nat) (l : List Int) (hl : l.length ≤ 100000000) (w : World) (hP : IntsAt w p l) :
   Calls Tryz.prog 71 #[.slice p l.length cap] w fun e w' => ∃ v, e = .returned v ∧ w'.ownsRow w.heap.size 3 1 v l.length (l.map (Value.int .i64)) ∧ Below w.heap.size w w' := by
 obtain ⟨i0, hi, hz0, hz1, hz2⟩ := info_parts info3
 have q36 : ∀ (w : World) (a : Option Addr) (n c n' c' : Nat), (binOp .eql 25 (.slice a n c) (.slice none n' c')).run Tryz.prog w = .ok (.bool a.isNone) w := fun w a n c n' c' => Lib.run_eql_slice_nil w _ _ a n c n' c' Tryz.underlying25
 cases p with
 | none =>
   have h0 : l = [] := by
     cases l with
     | nil => rfl
     | cons a t => obtain ⟨b, off, h, _⟩ := hP (by simp); cases h
   subst h0
   go_enter Tryz.func71, Tryz.ntmps71
   go_wp2
   go_ret
   exact ⟨_, rfl, World.ownsRow_nil _ _ _ _, Below.refl _ _⟩
 | some ad =>
   have HC := hide (ints_cells hP)
   clear hP
   go_enter Tryz.func71, Tryz.ntmps71
   go_wp2_with (at_builtin; refine wpList_append_own _ rfl _ _ 25 rfl w.heap.size 3 i0 (.int .i64 0) 1 8 Tryz.underlying25 hi hz0 hz1 hz2 rfl (by decide) _ _ _ rfl (World.ownsRow_made w #[] 0 (Nat.le_refl _) (Nat.zero_le _) rfl) ad l.length cap (l.map (Value.int .i64)) rfl ?qc1 ?qc2 ?qc3 ?qc4 ?qc5 ?qc6 ?_)
   case qc1 => simp
   case qc2 => intro j u hj; exact Lib.cell?_alloc_some _ (HC.out j u hj)
   case qc3 => intro u hu; obtain ⟨x, _, rfl⟩ := List.mem_map.1 hu; rfl
   case qc4 => unfold maxLen; omega
   case qc5 => omega
   case qc6 => simp
   intro v' w1 hown hgrow _
   go_wp2
   go_ret
   exact ⟨v', rfl, by simpa using hown, ((Below.refl _ w).alloc (Nat.le_refl _) _).grown hgrow (by simp) (by intro k hk; simp [Value.ownBlock] at hk; omega)⟩
theorem infoR : (Tryz.prog.info? 25).map (fun i => (i.zero, i.size, i.bytes)) = some (some (.slice none 0 0), 1, 24) := by kernel_rfl
structure Cm (w : World) (base M : Nat) (v : Value) (vars : Int) (rs : List Row) : Prop where
 c0 : w.cell? ⟨M, 0, none⟩ = some (.int .i64 vars)
 c1 : w.cell? ⟨M, 1, none⟩ = some v
 f0 : w.frozen? ⟨M, 0, none⟩ = false
 f1 : w.frozen? ⟨M, 1, none⟩ = false
 row : w.ownsRow base 25 1 v rs.length (rs.map Row.v)
 inn : InAt w rs
 hM : base ≤ M
 nv : v.ownBlock ≠ some M
 far : ∀ r ∈ rs, ∀ a, r.at' = some a → a.block ≠ M ∧ v.ownBlock ≠ some a.block ∧ a.block < w.heap.size ∧ base ≤ a.block
theorem Cm.below {w w1 : World} {base M : Nat} {v : Value} {vars : Int} {rs : List Row} (h : Cm w base M v vars rs) (hb : Below w.heap.size w w1) : Cm w1 base M v vars rs :=
 ⟨cell_later hb h.c0, cell_later hb h.c1, by rw [hb.frozen (World.block_lt_of_cell? _ _ h.c0)]; exact h.f0, by rw [hb.frozen (World.block_lt_of_cell? _ _ h.c1)]; exact h.f1, owns_below h.row hb, h.inn.later hb, h.hM, h.nv, fun r hr a ha => ⟨(h.far r hr a ha).1, (h.far r hr a ha).2.1, Nat.lt_of_lt_of_le (h.far r hr a ha).2.2.1 hb.size, (h.far r hr a ha).2.2.2⟩⟩
theorem owns_rows {w : World} {base : Nat} {v : Value} {rs : List Row} (h : w.ownsRow base 25 1 v rs.length (rs.map Row.v)) : ∃ p cap, v = .slice p rs.length cap ∧ RowsAt w p rs := by
 have h' := h
 obtain ⟨h1, h2⟩ := h
 rcases h2 with ⟨rfl, h0⟩ | ⟨g, cap, cur, rfl, hg, hh, hn, hm, hs, ht⟩
 · exact ⟨none, 0, by rw [h0], fun h => by omega⟩
 · refine ⟨_, cap, rfl, fun _ => ⟨g, 0, rfl, fun i hi => ?_⟩⟩
   rw [Nat.zero_add, h'.cellAt i (by omega), List.getElem?_map, List.getElem?_eq_getElem hi]
   rfl
structure Kp (M : Nat) (w : World) (v : Value) (w' : World) (v' : Value) : Prop where
 sz : w.heap.size ≤ w'.heap.size
 keep : ∀ (q : Addr) (x : Value), w.cell? q = some x → q ≠ ⟨M, 0, none⟩ → q ≠ ⟨M, 1, none⟩ → v.ownBlock ≠ some q.block → w'.cell? q = some x ∧ v'.ownBlock ≠ some q.block
 blk : ∀ g, g < w.heap.size → g ≠ M → v.ownBlock ≠ some g → w'.heap[g]? = w.heap[g]? ∧ v'.ownBlock ≠ some g
theorem Kp.refl (M : Nat) (w : World) (v : Value) : Kp M w v w v := ⟨Nat.le_refl _, fun _ _ h _ _ h2 => ⟨h, h2⟩, fun _ _ _ h => ⟨rfl, h⟩⟩
theorem Kp.trans {M : Nat} {w w1 w2 : World} {v v1 v2 : Value} (h : Kp M w v w1 v1) (h' : Kp M w1 v1 w2 v2) : Kp M w v w2 v2 :=
 ⟨Nat.le_trans h.sz h'.sz, fun q x hq h0 h1 h2 => h'.keep q x (h.keep q x hq h0 h1 h2).1 h0 h1 (h.keep q x hq h0 h1 h2).2,
   fun g hg hm hv => ⟨(h'.blk g (Nat.lt_of_lt_of_le hg h.sz) hm (h.blk g hg hm hv).2).1.trans (h.blk g hg hm hv).1, (h'.blk g (Nat.lt_of_lt_of_le hg h.sz) hm (h.blk g hg hm hv).2).2⟩⟩
theorem Kp.later {M : Nat} {w w1 : World} {v : Value} (hb : Below w.heap.size w w1) : Kp M w v w1 v := ⟨hb.size, fun _ _ hq _ _ h2 => ⟨cell_later hb hq, h2⟩, fun g hg _ hv => ⟨hb.block g hg, hv⟩⟩
theorem add_memC {w1 w2 : World} {base M g cap : Nat} {v : Value} {vars : Int} {rs : List Row} {r : Row} {o : Obj} (hbs : base ≤ w1.heap.size)
   (hmk : Cm w1 base M v vars rs) (hr : IntsAt w1 r.at' r.ns) (hrf : ∀ a, r.at' = some a → a.block ≠ M ∧ v.ownBlock ≠ some a.block ∧ a.block < w1.heap.size ∧ base ≤ a.block)
   (hg : (w1.alloc o).grownBy w2 v.ownBlock)
   (hrow : w2.ownsRow base 25 1 (.slice (some ⟨g, 0, none⟩) (rs.length + 1) cap) (rs.length + 1) (rs.map Row.v ++ [r.v])) (hat : v.ownBlock = some g ∨ g = w1.heap.size + 1) :
   Cm (w2.setCell ⟨M, 1, none⟩ (.slice (some ⟨g, 0, none⟩) (rs.length + 1) cap)) base M (.slice (some ⟨g, 0, none⟩) (rs.length + 1) cap) vars (rs ++ [r]) ∧
   (∀ w0, Below base w0 w1 → Below base w0 (w2.setCell ⟨M, 1, none⟩ (.slice (some ⟨g, 0, none⟩) (rs.length + 1) cap))) ∧
   Kp M w1 v (w2.setCell ⟨M, 1, none⟩ (.slice (some ⟨g, 0, none⟩) (rs.length + 1) cap)) (.slice (some ⟨g, 0, none⟩) (rs.length + 1) cap) := by
 have hM := World.block_lt_of_cell? _ _ hmk.c1
 simp only at hM
 have hgM : g ≠ M := by
   rcases hat with h | h
   · intro e; exact hmk.nv (by rw [h, e])
   · omega
 have k0 := hg.cell (past1 hmk.c0 o) (fun e => hmk.nv e.symm)
 have k1 := hg.cell (past1 hmk.c1 o) (fun e => hmk.nv e.symm)
 have hb : Below w1.heap.size w1 (w1.alloc o) := bal (Below.refl _ _) o
 have kf : ∀ j x, w1.cell? ⟨M, j, none⟩ = some x → w1.frozen? ⟨M, j, none⟩ = false → w2.frozen? ⟨M, j, none⟩ = false := fun j x h1 h2 => by
   rw [grown_frozen hg (past1 h1 o) (fun e => hmk.nv e.symm), hb.frozen hM]
   exact h2
 have hIn : ∀ q : Row, IntsAt w1 q.at' q.ns → (∀ a, q.at' = some a → a.block ≠ M ∧ v.ownBlock ≠ some a.block) → IntsAt (w2.setCell ⟨M, 1, none⟩ (.slice (some ⟨g, 0, none⟩) (rs.length + 1) cap)) q.at' q.ns := fun q h1 h2 =>
   ((h1.later hb).grownBy hg (fun a ha e => (h2 a ha).2 e.symm)).set _ _ (fun a ha => (h2 a ha).1)
 have hsz2 : w1.heap.size ≤ w2.heap.size := by have := hg.size; simp at this; omega
 have hFar : ∀ q : Row, (∀ a, q.at' = some a → a.block ≠ M ∧ v.ownBlock ≠ some a.block ∧ a.block < w1.heap.size ∧ base ≤ a.block) → ∀ a, q.at' = some a → a.block ≠ M ∧ Value.ownBlock (.slice (some ⟨g, 0, none⟩) (rs.length + 1) cap) ≠ some a.block ∧ a.block < w2.heap.size ∧ base ≤ a.block := fun q h a ha => by
   obtain ⟨h1, h2, h3, h5⟩ := h a ha
   refine ⟨h1, ?_, by omega, h5⟩
   intro e
   have e' : g = a.block := by simpa [Value.ownBlock] using e
   rcases hat with h4 | h4
   · exact h2 (by rw [h4, e'])
   · omega
 refine ⟨⟨?_, ?_, ?_, ?_, ?_, ?_, hmk.hM, ?_, ?_⟩, ?_, ?_⟩
 · rw [World.cell?_setCell_other w2 _ _ _ (by simp)]; exact k0
 · exact World.cell?_setCell_same w2 _ _ k1
 · rw [World.frozen?_setCell]; exact kf _ _ hmk.c0 hmk.f0
 · rw [World.frozen?_setCell]; exact kf _ _ hmk.c1 hmk.f1
 · rw [List.length_append, List.map_append]
   exact owns_set hrow (by simpa [Value.ownBlock] using hgM)
 · intro q hq
   rcases List.mem_append.1 hq with h | h
   · exact hIn q (hmk.inn q h) (fun a ha => ⟨(hmk.far q h a ha).1, (hmk.far q h a ha).2.1⟩)
   · obtain rfl : q = r := by simpa using h
     exact hIn q hr (fun a ha => ⟨(hrf a ha).1, (hrf a ha).2.1⟩)
 · simpa [Value.ownBlock] using hgM
 · intro q hq
   have hs : ∀ u, (w2.setCell ⟨M, 1, none⟩ u).heap.size = w2.heap.size := fun u => by simp
   rcases List.mem_append.1 hq with h | h
   · intro a ha; rw [hs]; exact hFar q (hmk.far q h) a ha
   · obtain rfl : q = r := by simpa using h
     intro a ha; rw [hs]; exact hFar q hrf a ha
 · intro w0 hb
   refine Below.setCell ((hb.alloc hbs o).grown hg (by simp; omega) (fun k hk => (hmk.row.lt k hk).1)) hmk.hM _
 · refine ⟨by simp; omega, fun q x hq _ h1 h2 => ⟨?_, fun e => ?_⟩, fun k hk h1 h2 => ⟨?_, fun e => ?_⟩⟩
   · rw [World.cell?_setCell_other w2 _ _ _ (fun e => h1 e.symm)]
     exact hg.cell (past1 hq o) (fun e => h2 e.symm)
   · have e' : g = q.block := by simpa [Value.ownBlock] using e
     have hlt := World.block_lt_of_cell? _ _ hq
     rcases hat with h | h
     · exact h2 (by rw [h, e'])
     · omega
   · rw [Below.heap_setCell _ _ _ _ h1, hg.block k (by simp; omega) (fun e => h2 e.symm)]
     exact hb.block k hk
   · have e' : g = k := by simpa [Value.ownBlock] using e
     rcases hat with h | h
     · exact h2 (by rw [h, e'])
     · omega
theorem one_news (r : Row) (w : World) : ∀ j u, ([r.v] : List Value)[j]? = some u → (w.alloc (.cells #[r.v] 25)).cell? ((⟨w.heap.size, 0, none⟩ : Addr).add j) = some u := fun j u hj => by
 match j, hj with
 | 0, hj => simp at hj; subst hj; simp [go_sem, Addr.add]
theorem one_cell (r : Row) : ∀ u ∈ ([r.v] : List Value), u.oneCell' = true := fun u hu => by
 simp at hu; subst hu; rfl
set_option maxRecDepth 100000 in
set_option maxHeartbeats 4000000 in
theorem addC_any (base M : Nat) (v : Value) (vars : Int) (rs : List Row) (hrs : rs.length ≤ 4000000) (l : List Int) (hl : l.length ≤ 100000000) (q : Option Addr) (qc : Nat) (w : World) (hbs : base ≤ w.heap.size) (hmk : Cm w base M v vars rs) (hI : IntsAt w q l) :
   Calls Tryz.prog 49 #[.pointer (some ⟨M, 0, none⟩), .slice q l.length qc] w fun e w' => e = .returned (.tuple #[]) ∧ ∃ v' r, r.ns = l ∧ Cm w' base M v' vars (rs ++ [r]) ∧ Below base w w' ∧ Kp M w v w' v' := by
 have HCL : Hid (∀ w1, Below w.heap.size w w1 → Calls Tryz.prog 71 #[.slice q l.length qc] w1 fun e w' => ∃ (pr : Option Addr) (cr : Nat), e = .returned (.slice pr l.length cr) ∧ IntsAt w' pr l ∧ (∀ a, pr = some a → w1.heap.size ≤ a.block ∧ a.block < w'.heap.size) ∧ Below w1.heap.size w1 w') :=
   fun w1 hb => (cloneI_any q qc l (by omega) w1 (hI.later hb)).mono fun e w' ⟨u, he, ho, hb⟩ => by
     have hlt := ho.lt
     obtain ⟨pv, cv, rfl, h1, _⟩ := owns_ints ho
     refine ⟨pv, cv, he, h1, fun a ha => ?_, hb⟩
     cases ha
     have := hlt a.block (by simp [Value.ownBlock])
     exact this
 obtain ⟨i0, hi, hz0, hz1, hz2⟩ := info_parts infoR
 obtain ⟨pv, cv, rfl, _⟩ := owns_rows hmk.row
 have m1 := hmk.c1
 have f1 := hmk.f1
 have HMK := hide hmk
 have HIN := hide (And.intro hi (And.intro hz0 (And.intro hz1 hz2)))
 have hlt0 := World.block_lt_of_cell? _ _ hmk.c1
 simp only at hlt0
 clear hI hmk hi hz0 hz1 hz2
 go_enter Tryz.func49, Tryz.ntmps49
 go_wp2
 go_region_law (first
   | (go_simp; go_at_call 71; refine (HCL.out _ (Below.refl _ _).drew).mono ?_; rintro e w1 ⟨pr, cr, rfl, hri, hrb, hb1⟩; have hmk1 := HMK.out.below (show Below w.heap.size w w1 from (Below.refl _ w).drew.trans hb1); have m1' := hmk1.c1; have f1' := hmk1.f1; have HMK1 := hide hmk1; have hM1 := World.block_lt_of_cell? _ _ m1'; simp only at hM1; have hM2 := World.new_ne w1 ⟨M, 1, none⟩ m1'; simp only at hM2; clear hmk1)
   | (refine step_append_lies _ rfl (.tmp 9) (.tmp 12) 28 rfl base 25 i0 (.slice none 0 0) 1 24 Tryz.underlying28 HIN.out.1 HIN.out.2.1 HIN.out.2.2.1 HIN.out.2.2.2 rfl (by decide) _ rs.length (rs.map Row.v) (by simp [Act.eval]) (HMK1.out.row.alloc _) ⟨w1.heap.size, 0, none⟩ 1 1 [(Row.mk pr l cr).v] (by simp [Act.eval]) rfl (one_news ⟨pr, l, cr⟩ w1) (one_cell ⟨pr, l, cr⟩) (by decide) (by unfold maxLen; omega) (by omega) (by simp; have := hb1.size; simp at this; omega) (w1.heap.size + 1) (by simp) ?_
      intro g cap w2 hown2 hg2 hat2 hlt2
      have g1 := hg2.cell (a := ⟨M, 1, none⟩) (past1 m1' _) (fun e => HMK1.out.nv e.symm)
      have f2 : w2.frozen? ⟨M, 1, none⟩ = false := (grown_frozen hg2 (past1 m1' _) (fun e => HMK1.out.nv e.symm)).trans (((bal (Below.refl _ _) _).frozen (World.block_lt_of_cell? _ _ m1')).trans f1')))
 all_goals
   have hmem := add_memC (r := ⟨pr, l, cr⟩) (by have := hb1.size; simp at this; omega) HMK1.out hri (fun a ha => by
     have h1 := hrb a ha
     simp at h1
     refine ⟨by omega, fun e => ?_, h1.2, by omega⟩
     have := (HMK.out.row.lt _ e).2
     omega) hg2 hown2 hat2
   have HMM := hide hmem
   have HB0 : Hid (Below w.heap.size w w1) := (Below.refl _ w).drew.trans (show Below w.heap.size w.drew w1 from hb1)
   have HB : Hid (Below base w w1) := HB0.out.mono hbs
   clear hmem
   go_end0
   exact ⟨rfl, _, _, rfl, HMM.out.1, HMM.out.2.1 _ HB.out, (Kp.later HB0.out).trans HMM.out.2.2⟩
end Go.Proofs.YtjhkecnnhddhbaaGreatDoor

namespace Go.Proofs.YtjhkecnnhddhbaaGreatDoor
open Go.RowKit Go.Maps Go.WideMaps
set_option maxRecDepth 100000
theorem numL_bd {x : Int} (h : 0 ≤ x) (h2 : x ≤ 10000000) : -10000000 ≤ numL x ∧ numL x ≤ 10000000 := by
 unfold numL
 split <;> omega
def numsOf (rs : List Row) : List (List Int) := rs.map Row.ns
theorem numsOf_len (rs : List Row) : (numsOf rs).length = rs.length := by simp [numsOf]
theorem numsOf_app (rs : List Row) (r : Row) : numsOf (rs ++ [r]) = numsOf rs ++ [r.ns] := by simp [numsOf]
theorem ints_two {w : World} (x y : Int) : IntsAt (w.alloc (.cells #[.int .i64 x, .int .i64 y] 3)) (some ⟨w.heap.size, 0, none⟩) [x, y] := fun _ => ⟨w.heap.size, 0, rfl, fun i hi => by
 match i, hi with
 | 0, _ => simp [go_sem]
 | 1, _ => simp [go_sem]⟩
theorem ints_three {w : World} (x y z : Int) : IntsAt (w.alloc (.cells #[.int .i64 x, .int .i64 y, .int .i64 z] 3)) (some ⟨w.heap.size, 0, none⟩) [x, y, z] := fun _ => ⟨w.heap.size, 0, rfl, fun i hi => by
 match i, hi with
 | 0, _ => simp [go_sem]
 | 1, _ => simp [go_sem]
 | 2, _ => simp [go_sem]⟩
set_option maxRecDepth 100000 in
set_option maxHeartbeats 4000000 in
theorem andM_any (base M : Nat) (v : Value) (vars : Int) (rs : List Row) (hrs : rs.length ≤ 3500000) (n a b : Int) (hn : 0 ≤ n) (hn2 : n ≤ 10000000) (ha : 0 ≤ a) (ha2 : a ≤ 10000000) (hb : 0 ≤ b) (hb2 : b ≤ 10000000) (w : World) (hbs : base ≤ w.heap.size) (hmk : Cm w base M v vars rs) :
   Calls Tryz.prog 37 #[.pointer (some ⟨M, 0, none⟩), .int .i64 n, arr2 a b] w fun e w' => e = .returned (.tuple #[]) ∧ ∃ v' rs', numsOf rs' = numsOf rs ++ andC n a b ∧ Cm w' base M v' vars rs' ∧ Below base w w' ∧ Kp M w v w' v' := by
 have hna := numL_bd ha ha2
 have hnb := numL_bd hb hb2
 have HC : Hid (andC n a b = [[-n, numL a], [-n, numL b], [n, -numL a, -numL b]]) := rfl
 have HMK := hide hmk
 have hal : Below w.heap.size w (w.alloc (.cells #[.int .i64 a, .int .i64 b] 75)).drew := (bal (Below.refl _ _) _).drew
 clear hmk
 generalize andC n a b = C at *
 go_enter Tryz.func37, Tryz.ntmps37
 go_wp2
 go_region_held3 (fun w' => w'.cell? ⟨w.heap.size, 0, none⟩ = some (.int .i64 a) ∧ w'.cell? ⟨w.heap.size, 1, none⟩ = some (.int .i64 b))
   (first | exact ⟨by simp [go_sem], by simp [go_sem]⟩ | go_keep)
   ((go_at_call 48; refine (number_any _ (by assumption) (by assumption) _).mono ?_; rintro e w' ⟨rfl, rfl⟩))
 all_goals
   generalize numL a = x at *
   generalize numL b = y at *
   have HMK1 := hide (HMK.out.below hal)
   have HB1 := hide (hal.mono hbs)
   have HK1 := hide (Kp.later (M := M) (v := v) hal)
   have hs1 : base ≤ (w.alloc (.cells #[.int .i64 a, .int .i64 b] 75)).drew.heap.size := by simp; omega
   rename_i hHeld
   clear hHeld hal HMK
   generalize (w.alloc (.cells #[.int .i64 a, .int .i64 b] 75)).drew = w1 at *
   go_wp2_with fail
   refine (addC_any base M v vars rs (by omega) [-n, x] (by simp) (some ⟨w1.heap.size, 0, none⟩) 2 _ (by simp; omega) (HMK1.out.below (bal (Below.refl _ _) _)) (ints_two (-n) x)).mono ?_
   rintro e w2 ⟨rfl, v2, r2, hr2, hmk2, hb2, hk2⟩
   have HMK2 := hide hmk2
   have hs2 : base ≤ w2.heap.size := by have := hb2.size; simp at this; omega
   have HB2 := hide ((HB1.out.alloc hs1 _).trans hb2)
   have HR2 := hide hr2
   have HK2 := hide ((HK1.out.trans (Kp.later (bal (Below.refl _ _) _))).trans hk2)
   clear hk2 hmk2 hb2 HMK1 HB1 hr2
   go_wp2_with fail
   refine (addC_any base M v2 vars (rs ++ [r2]) (by simp; omega) [-n, y] (by simp) (some ⟨w2.heap.size, 0, none⟩) 2 _ (by simp; omega) (HMK2.out.below (bal (Below.refl _ _) _)) (ints_two (-n) y)).mono ?_
   rintro e w3 ⟨rfl, v3, r3, hr3, hmk3, hb3, hk3⟩
   have HMK3 := hide hmk3
   have hs3 : base ≤ w3.heap.size := by have := hb3.size; simp at this; omega
   have HB3 := hide ((HB2.out.alloc hs2 _).trans hb3)
   have HR3 := hide hr3
   have HK3 := hide ((HK2.out.trans (Kp.later (bal (Below.refl _ _) _))).trans hk3)
   clear hk3 hmk3 hb3 HMK2 HB2 hr3
   go_wp2_with fail
   refine (addC_any base M v3 vars (rs ++ [r2] ++ [r3]) (by simp; omega) [n, -x, -y] (by simp) (some ⟨w3.heap.size, 0, none⟩) 3 _ (by simp; omega) (HMK3.out.below (bal (Below.refl _ _) _)) (ints_three n (-x) (-y))).mono ?_
   rintro e w4 ⟨rfl, v4, r4, hr4, hmk4, hb4, hk4⟩
   have HMK4 := hide hmk4
   have HB4 := hide ((HB3.out.alloc hs3 _).trans hb4)
   have HR4 := hide hr4
   have HK4 := hide ((HK3.out.trans (Kp.later (bal (Below.refl _ _) _))).trans hk4)
   clear hk4 hmk4 hb4 HMK3 HB3 hr4
   go_wp2
   go_end0
   exact ⟨rfl, v4, _, by rw [numsOf_app, numsOf_app, numsOf_app, HR2.out, HR3.out, HR4.out, HC.out]; simp, HMK4.out, HB4.out, HK4.out⟩
set_option maxRecDepth 100000 in
set_option maxHeartbeats 4000000 in
theorem rootM_any (base M : Nat) (v : Value) (vars : Int) (rs : List Row) (hrs : rs.length ≤ 3900000) (x : Int) (hx : 0 ≤ x) (hx2 : x ≤ 10000000) (w : World) (hbs : base ≤ w.heap.size) (hmk : Cm w base M v vars rs) :
   Calls Tryz.prog 44 #[.pointer (some ⟨M, 0, none⟩), .int .i64 x] w fun e w' => e = .returned (.tuple #[]) ∧ ∃ v' rs', numsOf rs' = numsOf rs ++ rootC x ∧ Cm w' base M v' vars rs' ∧ Below base w w' ∧ Kp M w v w' v' := by
 have HMK := hide hmk
 clear hmk
 by_cases h1 : x = 1
 · subst h1
   have HC : Hid (rootC 1 = []) := rfl
   go_enter Tryz.func44, Tryz.ntmps44
   go_wp2
   go_end0
   exact ⟨rfl, v, rs, by rw [HC.out]; simp, HMK.out, Below.refl _ _, Kp.refl _ _ _⟩
 · by_cases h0 : x = 0
   · subst h0
     have HC : Hid (rootC 0 = [[]]) := rfl
     go_enter Tryz.func44, Tryz.ntmps44
     go_wp2_with fail
     refine (addC_any base M v vars rs (by omega) [] (by simp) none 0 _ hbs HMK.out (fun h => by simp at h)).mono ?_
     rintro e w2 ⟨rfl, v2, r2, hr2, hmk2, hb2, hk2⟩
     have HMK2 := hide hmk2
     have HR2 := hide hr2
     clear hmk2 hr2
     go_wp2
     go_end0
     exact ⟨rfl, v2, _, by rw [numsOf_app, HR2.out, HC.out], HMK2.out, hb2, hk2⟩
   · have HC : Hid (rootC x = [[numL x]]) := by unfold rootC; rw [if_neg h1, if_neg h0]; rfl
     have hna := numL_bd hx hx2
     have HN := hide (fun w => number_any x hx hx2 w)
     have h1' : (x == 1) = false := by simpa using h1
     have h0' : (x == 0) = false := by simpa using h0
     generalize rootC x = C at *
     generalize numL x = y at *
     go_enter Tryz.func44, Tryz.ntmps44
     go_wp2_with (first | (go_at_call 48; refine (HN.out _).mono ?_; rintro e w' ⟨rfl, rfl⟩) | fail)
     refine (addC_any base M v vars rs (by omega) [y] (by simp) (some ⟨w'.heap.size, 0, none⟩) 1 _ (by simp; omega) (HMK.out.below (bal (Below.refl _ _) _)) (ints_one y)).mono ?_
     rintro e w2 ⟨rfl, v2, r2, hr2, hmk2, hb2, hk2⟩
     have HMK2 := hide hmk2
     have HR2 := hide hr2
     have HB2 := hide (((Below.refl _ _).alloc hbs _).trans hb2)
     have HK2 := hide ((Kp.later (M := M) (v := v) (bal (Below.refl _ w') _)).trans hk2)
     clear hmk2 hr2 hb2 hk2
     go_wp2
     go_end0
     exact ⟨rfl, v2, _, by rw [numsOf_app, HR2.out, HC.out], HMK2.out, HB2.out, HK2.out⟩
def cntB (x : Int) (rs : List Int) : Nat → Nat
 | 0 => 0
 | k + 1 => cntB x rs k + (if rs.getD k x = x then 0 else 1)
theorem cntB_le (x : Int) (rs : List Int) (k : Nat) : cntB x rs k ≤ k := by
 induction k with
 | zero => exact Nat.le_refl _
 | succ k ih => unfold cntB; split <;> omega
def cntR (rs : List Int) : Nat → Nat
 | 0 => 0
 | k + 1 => cntR rs k + (if rs.getD k 1 = 1 then 0 else 1)
def fitE (ins : Int) (n : Nat) (rs : List Int) : Int := if 800000 < 3 * n + cntR rs rs.length then 2 else if 200000 < ins + n then 3 else 0
set_option maxRecDepth 100000 in
set_option maxHeartbeats 4000000 in
theorem besides_any (z : Int) (rs : List Int) (q : Option Addr) (qc : Nat) (hl : rs.length ≤ 17592186044416) (w : World) (hI : IntsAt w q rs) :
   Calls Tryz.prog 39 #[.slice q rs.length qc, .int .i64 z] w fun e w' => e = .returned (.int .i64 (cntB z rs rs.length : Nat)) ∧ w' = w := by
 have HI := hide hI
 clear hI
 go_enter Tryz.func39, Tryz.ntmps39
 go_wp2
 go_loopw [5, 10] (fun c i wr => ∃ k : Nat, k ≤ rs.length ∧ i = .int .i64 k ∧ c = .int .i64 (cntB z rs k : Nat) ∧ wr = w) (fun _ i _ => rs.length - (intOf i).toNat)
 case atStart => exact ⟨0, Nat.zero_le _, rfl, by simp [cntB], rfl⟩
 case round =>
   obtain ⟨k, hk, rfl, rfl, hwr⟩ := hrel
   obtain rfl : w = wr := hwr.symm
   have hc := cntB_le z rs k
   by_cases hlt : k < rs.length
   · obtain ⟨b, off, rfl, hcs⟩ := HI.out (by omega)
     have c0 := hcs k hlt
     have HS : Hid (cntB z rs (k + 1) = cntB z rs k + (if rs.getD k z = z then 0 else 1)) := rfl
     have hg : rs.getD k z = rs[k] := by simp [List.getD, List.getElem?_eq_getElem hlt]
     rw [hg] at HS
     clear hg hcs
     generalize rs[k] = x at *
     have hki : (k : Int) < (rs.length : Int) := by omega
     generalize cntB z rs k = cn at *
     by_cases hx : x = z
     · subst hx
       have HS2 : Hid (cntB x rs (k + 1) = cn) := by rw [HS.out]; simp [Hid]
       go_wp2
       go_roundw
       case rel => exact ⟨k + 1, by omega, by go_num, by rw [HS2.out], trivial⟩
       case measure => simp [intOf]; omega
     · have HS2 : Hid (cntB z rs (k + 1) = cn + 1) := by rw [HS.out, if_neg hx]; rfl
       have hx' : (x != z) = true := by simpa using hx
       go_wp2
       go_roundw
       case rel => exact ⟨k + 1, by omega, by go_num, by rw [HS2.out]; go_num, trivial⟩
       case measure => simp [intOf]; omega
   · obtain rfl : k = rs.length := by omega
     go_wp2
     go_ret
     exact ⟨rfl, rfl⟩
end Go.Proofs.YtjhkecnnhddhbaaGreatDoor

namespace Go.Proofs.YtjhkecnnhddhbaaGreatDoor
open Go.RowKit Go.Maps Go.WideMaps
set_option maxRecDepth 100000
theorem andsC_len (ins : Int) (ps : List (Int × Int)) (k : Nat) (h : k ≤ ps.length) : (andsC ins ps k).length = 3 * k := by
 induction k with
 | zero => rfl
 | succ k ih => rw [andsC_succ (by omega), List.length_append, ih (by omega)]; simp [andC]; omega
theorem rootC_len (x : Int) : (rootC x).length = if x = 1 then 0 else 1 := by
 unfold rootC
 split
 · rfl
 · split <;> rfl
def ofV (e x : Int) : Int := if e = 0 then x else 0
def ofL (e : Int) (L : List (List Int)) : List (List Int) := if e = 0 then L else []
structure ClAt (w : World) (p : Option Addr) (rs : List Row) : Prop where
 rows : RowsAt w p rs
 inn : InAt w rs
theorem ClAt.later {w w1 : World} {p : Option Addr} {rs : List Row} (h : ClAt w p rs) (hb : Below w.heap.size w w1) : ClAt w1 p rs := ⟨h.rows.later hb, h.inn.later hb⟩
theorem clAt_nil (w : World) : ClAt w none [] := ⟨fun h => by simp at h, fun r hr => by simp at hr⟩
abbrev cval (vars : Int) (p : Option Addr) (len cap : Nat) : Value := .agg #[.int .i64 vars, .slice p len cap]
theorem fit_zero {ins : Int} {n : Nat} {rs : List Int} (h : fitE ins n rs = 0) : 3 * n + cntR rs rs.length ≤ 800000 ∧ ins + n ≤ 200000 := by
 unfold fitE at h
 split at h
 · cases h
 · split at h
   · cases h
   · omega
theorem clAt_set {w : World} {p : Option Addr} {rws : List Row} {B i : Nat} {u : Value} (h : ClAt w p rws) (h1 : ∀ a, p = some a → a.block ≠ B) (h2 : ∀ r ∈ rws, ∀ a, r.at' = some a → a.block ≠ B) : ClAt (w.setCell ⟨B, i, none⟩ u) p rws :=
 ⟨fun h0 => by
   obtain ⟨b, off, e, hc⟩ := h.rows h0
   exact ⟨b, off, e, fun j hj => cell_set_far (hc j hj) (h1 ⟨b, off, none⟩ e)⟩, fun r hr => (h.inn r hr).set _ _ (fun a ha => h2 r hr a ha)⟩
theorem cm_zero {w : World} {vars : Int} {M : Nat} (c0 : w.cell? ⟨M, 0, none⟩ = some (.int .i64 vars)) (c1 : w.cell? ⟨M, 1, none⟩ = some (.slice none 0 0)) (f0 : w.frozen? ⟨M, 0, none⟩ = false) (f1 : w.frozen? ⟨M, 1, none⟩ = false) : Cm w M M (.slice none 0 0) vars [] :=
 ⟨c0, c1, f0, f1, World.ownsRow_nil _ _ _ _, fun r hr => by simp at hr, Nat.le_refl _, by simp [Value.ownBlock], fun r hr => by simp at hr⟩
end Go.Proofs.YtjhkecnnhddhbaaGreatDoor

namespace Go.Proofs.YtjhkecnnhddhbaaGreatDoor
open Go.RowKit Go.Maps Go.WideMaps
set_option maxRecDepth 100000
def noneC (vars n : Int) : Bool := n == 0 || decide (n < -vars) || decide (vars < n)
def rowE (vars : Int) (ns : List Int) : Int := if 200 < ns.length then 2 else if ns.any (noneC vars) = true then 5 else 0
def firstE (vars : Int) : List (List Int) → Int
 | [] => 0
 | ns :: t => if rowE vars ns ≠ 0 then rowE vars ns else firstE vars t
def chkC (vars : Int) (L : List (List Int)) : Int := if btw vars 0 200000 = false then 3 else if 800000 < L.length then 2 else firstE vars L
theorem enter58 (args : Array Value) (w : World) : (callFunc 64 args).run Tryz.prog w = .ok (.enter 64 args) w := by kernel_rfl
set_option maxHeartbeats 1000000 in
theorem check1_any (n vars : Int) (h0 : 0 ≤ vars) (h1 : vars ≤ 200000) (B : Nat) (w : World) (hB : w.cell? ⟨B, 0, none⟩ = some (.int .i64 vars)) :
   Calls Tryz.prog 64 #[.int .i64 n, .pointer (some ⟨B, 0, none⟩)] w fun r w' => r = .returned (.bool (noneC vars n)) ∧ Below w.heap.size w w' := by
 have HE : Hid (noneC vars n = (n == 0 || decide (n < -vars) || decide (vars < n))) := rfl
 generalize noneC vars n = R at *
 by_cases hz : n = 0
 · have HX : Hid (R = true) := by rw [HE.out]; simp [hz, Hid]
   subst hz
   go_enter Tryz.func64, Tryz.ntmps64
   go_wp2
   go_ret
   exact ⟨ret_bool HX.out.symm, Below.refl _ _⟩
 · have hz' : (n == 0) = false := by simpa using hz
   by_cases hl : n < -vars
   · have HX : Hid (R = true) := by rw [HE.out]; simp [hl, Hid]
     go_enter Tryz.func64, Tryz.ntmps64
     go_wp2
     go_ret
     exact ⟨ret_bool HX.out.symm, Below.refl _ _⟩
   · have HX : Hid (R = decide (vars < n)) := by rw [HE.out, hz']; simp [hl, Hid]
     go_enter Tryz.func64, Tryz.ntmps64
     go_wp2
     go_ret
     exact ⟨ret_bool HX.out.symm, Below.refl _ _⟩
theorem firstE_drop (vars : Int) (L : List (List Int)) (k : Nat) (h : k < L.length) : firstE vars (L.drop k) = if rowE vars L[k] ≠ 0 then rowE vars L[k] else firstE vars (L.drop (k + 1)) := by
 rw [List.drop_eq_getElem_cons h]
 rfl
set_option maxRecDepth 100000 in
set_option maxHeartbeats 4000000 in
theorem checkC_any (vars : Int) (p : Option Addr) (cap : Nat) (rs : List Row) (hl : rs.length ≤ 100000000000000) (hin : ∀ r ∈ rs, r.ns.length ≤ maxLen) (w : World) (hC : ClAt w p rs) :
   Calls Tryz.prog 33 #[cval vars p rs.length cap] w fun e w' => e = .returned (.int .i64 (chkC vars (numsOf rs))) ∧ Below w.heap.size w w' := by
 have hB0 : Below w.heap.size w (w.alloc (.cells #[.int .i64 vars, .slice p rs.length cap] 30)) := bal (Below.refl _ _) _
 have hnl := numsOf_len rs
 have HE : Hid (chkC vars (numsOf rs) = if btw vars 0 200000 = false then 3 else if 800000 < rs.length then 2 else firstE vars (numsOf rs)) := by unfold chkC; rw [hnl]; rfl
 have HC := hide (hC.later hB0)
 have HIN := hide hin
 clear hC hin
 generalize chkC vars (numsOf rs) = R at *
 by_cases hv : 0 ≤ vars
 · by_cases hv2 : vars ≤ 200000
   · have hbt : btw vars 0 200000 = true := btw_true.2 ⟨hv, hv2⟩
     rw [hbt, if_neg (by decide)] at HE
     have hv' : ¬ vars < 0 := by omega
     have hv2' : ¬ 200000 < vars := by omega
     by_cases hm : 800000 < rs.length
     · have HX : Hid (R = 2) := by rw [HE.out, if_pos hm]; rfl
       have hm' : (800000 : Int) < (rs.length : Int) := by omega
       go_enter Tryz.func33, Tryz.ntmps33
       go_wp2
       go_ret
       exact ⟨ret_int HX.out.symm, hB0⟩
     · rw [if_neg hm] at HE
       have hm' : ¬ (800000 : Int) < (rs.length : Int) := by omega
       have b0 : (w.alloc (.cells #[.int .i64 vars, .slice p rs.length cap] 30)).cell? ⟨w.heap.size, 0, none⟩ = some (.int .i64 vars) := by simp [go_sem]
       have HB0 := hide hB0
       clear hB0 hbt
       go_enter Tryz.func33, Tryz.ntmps33
       go_wp2
       generalize w.alloc (.cells #[.int .i64 vars, .slice p rs.length cap] 30) = w0 at *
       go_loopw [22] (fun i wr => ∃ k : Nat, k ≤ rs.length ∧ i = .int .i64 k ∧ Hid (firstE vars (numsOf rs) = firstE vars ((numsOf rs).drop k)) ∧ Below w0.heap.size w0 wr) (fun i _ => rs.length - (intOf i).toNat)
       case atStart => exact ⟨0, Nat.zero_le _, rfl, by simp [Hid], Below.refl _ _⟩
       case round =>
         obtain ⟨k, hk, rfl, hf, hbw⟩ := hrel
         have b1 := cell_later hbw b0
         have HBW := hide (bthen HB0.out hbw)
         by_cases hlt : k < rs.length
         · obtain ⟨b, off, rfl, hc⟩ := (HC.out.rows.later hbw) (by omega)
           have hck := hc k hlt
           have hki : (k : Int) < (rs.length : Int) := by omega
           have hrk : (numsOf rs)[k]'(by omega) = rs[k].ns := by simp [numsOf]
           have HD := hide (firstE_drop vars (numsOf rs) k (by omega))
           rw [hrk] at HD
           have HIR := hide ((HC.out.inn.later hbw) rs[k] (List.getElem_mem hlt))
           have hnk := HIN.out rs[k] (List.getElem_mem hlt)
           unfold maxLen at hnk
           clear hc hrk
           generalize rs[k] = r at *
           obtain ⟨ra, rn, rc⟩ := r
           unfold Row.v at hck
           simp only at *
           by_cases h2 : 200 < rn.length
           · have HX : Hid (R = 2) := by
               rw [HE.out, hf.out, HD.out]
               have : rowE vars rn = 2 := by unfold rowE; rw [if_pos h2]
               rw [this]; rfl
             have h2' : (200 : Int) < (rn.length : Int) := by omega
             clear HE HD hf
             go_wp2
             go_ret
             exact ⟨ret_int HX.out.symm, HBW.out⟩
           · have h2' : ¬ (200 : Int) < (rn.length : Int) := by omega
             have HRE : Hid (rowE vars rn = if rn.any (noneC vars) = true then 5 else 0) := by unfold rowE; rw [if_neg h2]; rfl
             have HCF := hide (containsFunc_any 64 (.pointer (some ⟨w.heap.size, 0, none⟩)) (noneC vars) rn ra rc wr (by unfold maxLen; omega) HIR.out enter58 (fun wq hb i hi => check1_any _ _ hv hv2 _ _ (cell_later hb b1)))
             cases hany : rn.any (noneC vars)
             · rw [hany] at HCF HRE
               have HNX : Hid (firstE vars (numsOf rs) = firstE vars ((numsOf rs).drop (k + 1))) := by
                 rw [hf.out, HD.out, HRE.out]; rfl
               clear HD hf hany HRE
               go_wp2_with fail
               refine HCF.out.mono ?_
               rintro e w2 ⟨rfl, hb2⟩
               have HB2 := hide (bthen hbw hb2)
               clear hb2
               go_wp2
               go_roundw
               case rel => exact ⟨k + 1, by omega, by go_num, HNX, HB2.out⟩
               case measure => simp [intOf]; omega
             · rw [hany] at HCF HRE
               have HX : Hid (R = 5) := by rw [HE.out, hf.out, HD.out, HRE.out]; rfl
               clear HD hf hany HRE HE
               go_wp2_with fail
               refine HCF.out.mono ?_
               rintro e w2 ⟨rfl, hb2⟩
               have HB2 := hide (bthen HBW.out hb2)
               clear hb2
               go_wp2
               go_ret
               exact ⟨ret_int HX.out.symm, HB2.out⟩
         · have HX : Hid (R = 0) := by
             rw [HE.out, hf.out, List.drop_of_length_le (by omega)]; rfl
           clear HE hf
           go_wp2
           go_ret
           exact ⟨ret_int HX.out.symm, HBW.out⟩
   · have hbt : btw vars 0 200000 = false := btw_false.2 (by omega)
     have HX : Hid (R = 3) := by rw [HE.out, if_pos hbt]; rfl
     have hv' : ¬ vars < 0 := by omega
     have hv2' : 200000 < vars := by omega
     go_enter Tryz.func33, Tryz.ntmps33
     go_wp2
     go_ret
     exact ⟨ret_int HX.out.symm, hB0⟩
 · have hbt : btw vars 0 200000 = false := btw_false.2 (by omega)
   have HX : Hid (R = 3) := by rw [HE.out, if_pos hbt]; rfl
   have hv' : vars < 0 := by omega
   go_enter Tryz.func33, Tryz.ntmps33
   go_wp2
   go_ret
   exact ⟨ret_int HX.out.symm, hB0⟩
end Go.Proofs.YtjhkecnnhddhbaaGreatDoor
