/- A map from numbers to lists: what is read of it, and what is put there. -/
import Derived.Test.YtmambfdimeeijaaGreatDoorBgM
namespace Go.Proofs.YtmambfdimeeijaaGreatDoor.Ev
open Go.RowKit Go.Maps
set_option maxRecDepth 100000
def slD (b o n c : Nat) : DataW Unit := .agg [.lit (.int .i64 b), .lit (.int .i64 o), .lit (.int .i64 n), .lit (.int .i64 c)]
def slR : Value → Option (DataW Unit × List MemPlace)
 | .slice (some ⟨b, o, none⟩) n c => some (slD b o n c, [])
 | .slice none 0 0 => some (.nil, [])
 | _ => none
theorem slR_some (b o n c : Nat) : slR (.slice (some ⟨b, o, none⟩) n c) = some (slD b o n c, []) := rfl
theorem slR_nil : slR (.slice none 0 0) = some (.nil, []) := rfl
theorem slD_inj {b o n c b' o' n' c' : Nat} (h : slD b o n c = slD b' o' n' c') : b = b' ∧ o = o' ∧ n = n' ∧ c = c' := by
 unfold slD at h
 simp at h
 omega
theorem slR_inv {v : Value} {b o n c : Nat} {ps : List MemPlace} (h : slR v = some (slD b o n c, ps)) : v = .slice (some ⟨b, o, none⟩) n c := by
 unfold slR at h
 split at h
 · injection h with h
   obtain ⟨h1, _⟩ := Prod.mk.inj h
   obtain ⟨rfl, rfl, rfl, rfl⟩ := slD_inj h1
   rfl
 · injection h with h
   obtain ⟨h1, _⟩ := Prod.mk.inj h
   unfold slD at h1
   cases h1
 · cases h
theorem slR_inv_nil {v : Value} {ps : List MemPlace} (h : slR v = some (.nil, ps)) : v = .slice none 0 0 := by
 unfold slR at h
 split at h
 · injection h with h
   obtain ⟨h1, _⟩ := Prod.mk.inj h
   unfold slD at h1
   cases h1
 · rfl
 · cases h
theorem zero25 (w : World) : (zeroValue 25).run Tryz.prog w = .ok (.slice none 0 0) w := by kernel_rfl
theorem look70_yes {w : World} {M n : Nat} {D : DataW Unit} (h : w.ownsMap Tryz.prog 3 slR M n D) {x : Int} (hx : 0 ≤ x) (hx2 : x ≤ 1000) {b o m c : Nat} (hh : Maps.has D (.int .i64 x) = true) (ha : D.atKey (.int .i64 x) .nil = slD b o m c) :
   (Instr.lookup 105 (.map (some M)) (.int .i64 x) true).run Tryz.prog w = .ok (.tuple #[.slice (some ⟨b, o, none⟩) m c, .bool true]) w := by
 have hkey : keyOf Tryz.prog 3 (.int .i64 x) = some (.int .i64 x) := keyOf_int_mk Tryz.underlying3 (WalkArith.wf_i64 (by omega))
 obtain ⟨v, ps, h1, h2⟩ := World.ownsMap.look_ok h law3 Tryz.underlying105 (zero25 _) slR_nil hkey
 rw [ha] at h2
 rw [h1, hh, slR_inv h2]
theorem look70_no {w : World} {M n : Nat} {D : DataW Unit} (h : w.ownsMap Tryz.prog 3 slR M n D) {x : Int} (hx : 0 ≤ x) (hx2 : x ≤ 1000) (hh : Maps.has D (.int .i64 x) = false) (ha : D.atKey (.int .i64 x) .nil = .nil) :
   (Instr.lookup 105 (.map (some M)) (.int .i64 x) true).run Tryz.prog w = .ok (.tuple #[.slice none 0 0, .bool false]) w := by
 have hkey : keyOf Tryz.prog 3 (.int .i64 x) = some (.int .i64 x) := keyOf_int_mk Tryz.underlying3 (WalkArith.wf_i64 (by omega))
 obtain ⟨v, ps, h1, h2⟩ := World.ownsMap.look_ok h law3 Tryz.underlying105 (zero25 _) slR_nil hkey
 rw [ha] at h2
 rw [h1, hh, slR_inv_nil h2]
theorem put70 {w : World} {M n : Nat} {D : DataW Unit} (h : w.ownsMap Tryz.prog 3 slR M n D) (hn : n < 1000000) {x : Int} (hx : 0 ≤ x) (hx2 : x ≤ 1000) (b o m c : Nat) :
   ∃ w', (Instr.mapUpdate 105 (.map (some M)) (.int .i64 x) (.slice (some ⟨b, o, none⟩) m c)).run Tryz.prog w = .ok () w' ∧ w'.ownsMap Tryz.prog 3 slR M (n + 1) (D.put (.int .i64 x) (slD b o m c)) ∧ w.grownBy w' (some M) :=
 h.update law3 Tryz.underlying105 (by unfold maxLen; omega) (keyOf_int_mk Tryz.underlying3 (WalkArith.wf_i64 (by omega))) (slR_some b o m c)
end Go.Proofs.YtmambfdimeeijaaGreatDoor.Ev

namespace Go.Proofs.YtmambfdimeeijaaGreatDoor.Ev
open Go.RowKit Go.Maps
set_option maxRecDepth 100000
set_option maxHeartbeats 2000000 in
theorem operateNot_any (wd xa xb xc xn : Int) (l : List Int) (p : Option Addr) (cap : Nat) (py pz : Option Addr) (ly lz cy cz : Nat) (pb : Option Addr) (hl : ∀ x ∈ l, 0 ≤ x ∧ x ≤ 10000000) (hn : l.length ≤ 1000) (w : World) (hI : Go.Proofs.YtmambfdimeeijaaGreatDoor.IntsAt w p l) :
   Calls Tryz.prog 125 #[.pointer pb, .agg #[.int .i64 4, .int .i64 wd, .int .i64 xa, .int .i64 xb, .int .i64 xc, .int .i64 xn], .slice p l.length cap, .slice py ly cy, .slice pz lz cz] w fun e w' => ∃ G, e = .returned (.slice (some ⟨G, 0, none⟩) l.length l.length) ∧ w.heap.size ≤ G ∧ Go.Proofs.YtmambfdimeeijaaGreatDoor.IRow w' G (l.map Go.Proofs.YtmambfdimeeijaaGreatDoor.turn) ∧ Below w.heap.size w w' := by
 have HT := hide (fun (w' : World) (hb : Below w.heap.size w w') => Go.Proofs.YtmambfdimeeijaaGreatDoor.turnedB_any l p cap hl hn w' (hI.later hb))
 clear hl hI
 go_enter Tryz.func125, Tryz.ntmps125
 go_wp2_with fail
 refine (HT.out _ (bal (bal (bal (bal (bal (Below.refl _ _) _) _) _) _) _)).mono ?_
 rintro e w1 ⟨G, rfl, hG, hr, hb⟩
 have hG2 : w.heap.size ≤ G := by simp at hG; omega
 have HR := hide hr
 have HB := hide (bthen (bal (bal (bal (bal (bal (Below.refl w.heap.size w) _) _) _) _) _) hb)
 clear hr hb hG HT
 go_wp2
 go_ret
 exact ⟨G, rfl, hG2, HR.out, HB.out⟩
end Go.Proofs.YtmambfdimeeijaaGreatDoor.Ev

namespace Go.Proofs.YtmambfdimeeijaaGreatDoor.Ev
open Go.RowKit Go.Maps
set_option maxRecDepth 100000
theorem map_block {w w1 : World} {M n : Nat} {D : DataW Unit} {R : Value → Option (DataW Unit × List MemPlace)} (h : w.ownsMap Tryz.prog 3 R M n D) (hb : w1.heap[M]? = w.heap[M]?) : w1.ownsMap Tryz.prog 3 R M n D := by
 obtain ⟨es, clock, hh, hr⟩ := h
 exact ⟨es, clock, by rw [hb]; exact hh, hr⟩
theorem nextIn_any (Bi : Nat) (w : World) (base : Nat) (hb : base ≤ Bi) (hB : base ≤ w.heap.size) (c0 : w.cell? ⟨Bi, 0, none⟩ = some (.int .i64 0)) (f0 : w.frozen? ⟨Bi, 0, none⟩ = false) :
   Calls Tryz.prog 93 #[.int .i64 1, .func (.func 95) #[] #[.pointer (some ⟨Bi, 0, none⟩)]] w fun e w' => ∃ G, e = .returned (.slice (some ⟨G, 0, none⟩) 1 1) ∧ w.heap.size ≤ G ∧ Go.Proofs.YtmambfdimeeijaaGreatDoor.IRow w' G [2] ∧ w'.cell? ⟨Bi, 0, none⟩ = some (.int .i64 1) ∧ w'.frozen? ⟨Bi, 0, none⟩ = false ∧ Below base w w' ∧ ∀ g, ¬ g = Bi → g < w.heap.size → w'.heap[g]? = w.heap[g]? := by
 have h := Go.Proofs.YtmambfdimeeijaaGreatDoor.made_any 95 (.pointer (some ⟨Bi, 0, none⟩)) (fun k => 2 * ((k : Int) + 1)) 1 base (by omega) (fun g => g = Bi) (fun k wr => wr.cell? ⟨Bi, 0, none⟩ = some (.int .i64 (k : Int)) ∧ wr.frozen? ⟨Bi, 0, none⟩ = false) w hB (fun g h => by subst h; exact World.block_lt_of_cell? _ _ c0) ⟨c0, f0⟩
   (fun _ w1 w2 h hk => ⟨Go.Proofs.YtmambfdimeeijaaGreatDoor.cell_block h.1 (hk _ rfl), by rw [World.frozen?_of_block (w := w1) (a := ⟨Bi, 0, none⟩) (hk _ rfl)]; exact h.2⟩) Go.Proofs.YtmambfdimeeijaaGreatDoor.enterB58
   (fun k hk wr _ hj => (Go.Proofs.YtmambfdimeeijaaGreatDoor.start1_any k k (by omega) Bi wr hj.1 hj.2).mono fun e w' ⟨h1, h2⟩ => by
     subst h2
     exact ⟨h1, ⟨World.cell?_setCell_same wr _ _ hj.1, by rw [World.frozen?_setCell]; exact hj.2⟩, (Below.refl _ wr).setCell hb _, fun g hg _ => Below.heap_setCell wr _ _ g (by simpa using hg)⟩)
 exact h.mono fun e w' ⟨G, h1, h2, h3, h4, h5, h6⟩ => ⟨G, h1, h2, h3, h4.1, h4.2, h5, h6⟩
end Go.Proofs.YtmambfdimeeijaaGreatDoor.Ev

namespace Go.Proofs.YtmambfdimeeijaaGreatDoor.Ev
open Go.RowKit Go.Maps
set_option maxRecDepth 100000
structure StC (w wr : World) (B0 : Nat) : Prop where
 q0 : wr.cell? ⟨w.heap.size, 0, none⟩ = some (.slice (some ⟨B0, 0, none⟩) 3 3)
 b0 : wr.cell? ⟨w.heap.size + 2, 0, none⟩ = some (.pointer none)
 b1 : wr.cell? ⟨w.heap.size + 2, 1, none⟩ = some (.slice (some ⟨B0, 0, none⟩) 3 3)
 b2 : wr.cell? ⟨w.heap.size + 2, 2, none⟩ = some (.map (some (w.heap.size + 1)))
 bf : wr.frozen? ⟨w.heap.size + 2, 0, none⟩ = false
 i : wr.frozen? ⟨w.heap.size + 3, 0, none⟩ = false
 bel : Below w.heap.size w wr
 sz : w.heap.size + 4 ≤ wr.heap.size
theorem StC.later {w wr w1 : World} {B0 : Nat} (h : StC w wr B0) (hb : Below wr.heap.size wr w1) : StC w w1 B0 :=
 ⟨cell_later hb h.q0, cell_later hb h.b0, cell_later hb h.b1, cell_later hb h.b2, by rw [hb.frozen (World.block_lt_of_cell? _ _ h.b0)]; exact h.bf, by rw [hb.frozen (by have := h.sz; simp; omega)]; exact h.i, bthen h.bel hb, Nat.le_trans h.sz hb.size⟩
structure StA (w wr : World) (B0 : Nat) : Prop where
 c : StC w wr B0
 own : wr.ownsMap Tryz.prog 3 slR (w.heap.size + 1) 0 (.map [])
 cnt : wr.cell? ⟨w.heap.size + 3, 0, none⟩ = some (.int .i64 0)
theorem StA.later {w wr w1 : World} {B0 : Nat} (h : StA w wr B0) (hb : Below wr.heap.size wr w1) : StA w w1 B0 := ⟨h.c.later hb, map_block h.own (hb.block _ (by have := h.c.sz; omega)), cell_later hb h.cnt⟩
structure StB (w wr : World) (B0 G : Nat) : Prop where
 c : StC w wr B0
 own : wr.ownsMap Tryz.prog 3 slR (w.heap.size + 1) 1 ((DataW.map []).put (.int .i64 1) (slD G 0 1 1))
 cnt : wr.cell? ⟨w.heap.size + 3, 0, none⟩ = some (.int .i64 1)
 row : Go.Proofs.YtmambfdimeeijaaGreatDoor.IRow wr G [2]
 g : w.heap.size + 4 ≤ G
theorem kept_cell {w1 w2 : World} {a : Addr} {v : Value} {x : Nat} (h : w1.cell? a = some v) (hk : ∀ g, ¬ g = x → g < w1.heap.size → w2.heap[g]? = w1.heap[g]?) (hne : a.block ≠ x) : w2.cell? a = some v :=
 Go.Proofs.YtmambfdimeeijaaGreatDoor.cell_block h (hk _ hne (World.block_lt_of_cell? _ _ h))
theorem st_made {w wr w1 w2 : World} {B0 G : Nat} (h : StA w wr B0) (hsz : wr.heap.size ≤ w1.heap.size) (hG : wr.heap.size ≤ G) (hr : Go.Proofs.YtmambfdimeeijaaGreatDoor.IRow w1 G [2]) (hc : w1.cell? ⟨w.heap.size + 3, 0, none⟩ = some (.int .i64 1)) (hf : w1.frozen? ⟨w.heap.size + 3, 0, none⟩ = false)
   (hb : Below w.heap.size wr w1) (hk : ∀ g, ¬ g = w.heap.size + 3 → g < wr.heap.size → w1.heap[g]? = wr.heap[g]?)
   (hown : w2.ownsMap Tryz.prog 3 slR (w.heap.size + 1) 1 ((DataW.map []).put (.int .i64 1) (slD G 0 1 1))) (hg : w1.grownBy w2 (some (w.heap.size + 1))) : StB w w2 B0 G := by
 have hs := h.c.sz
 have hfz : ∀ a x, wr.cell? ⟨w.heap.size + 2, a, none⟩ = some x → wr.frozen? ⟨w.heap.size + 2, a, none⟩ = false → w1.frozen? ⟨w.heap.size + 2, a, none⟩ = false := fun a x h1 h2 => by
   rw [World.frozen?_of_block (w := wr) (a := ⟨w.heap.size + 2, a, none⟩) (hk _ (by simp) (World.block_lt_of_cell? _ _ h1))]; exact h2
 have b0' := kept_cell h.c.b0 hk (by simp)
 refine ⟨⟨hg.cell (kept_cell h.c.q0 hk (by simp)) (by simp), hg.cell b0' (by simp), hg.cell (kept_cell h.c.b1 hk (by simp)) (by simp), hg.cell (kept_cell h.c.b2 hk (by simp)) (by simp), ?_, ?_, ?_, ?_⟩, hown, hg.cell hc (by simp), ?_, by omega⟩
 · rw [Go.Proofs.YtmambfdimeeijaaGreatDoor.grown_frozen hg b0' (by simp)]; exact hfz _ _ h.c.b0 h.c.bf
 · rw [Go.Proofs.YtmambfdimeeijaaGreatDoor.grown_frozen hg hc (by simp)]; exact hf
 · exact (h.c.bel.trans hb).grown hg (by omega) (fun j hj => by cases hj; omega)
 · have := hg.size; omega
 · exact hr.kept (hg.block G (World.block_lt_of_cell? _ _ (hr 0 (by simp)).1) (by simp; omega))
end Go.Proofs.YtmambfdimeeijaaGreatDoor.Ev

namespace Go.Proofs.YtmambfdimeeijaaGreatDoor.Ev
open Go.RowKit Go.Maps
set_option maxRecDepth 100000
theorem run_makeMap70 (w : World) : (Instr.makeMap 105 none).run Tryz.prog w = .ok (.map (some w.heap.size)) (w.alloc (.map #[] 0)) := by
 simp [Instr.makeMap]
theorem st_zero (w : World) (B0 B1 B2 B3 : Nat) : StA w ((((w.alloc (.cells (Mv.cells (tgM B0 B1 B2 B3) 3) 51)).alloc (.map #[] 0)).alloc (.cells #[.pointer none, .slice (some ⟨B0, 0, none⟩) 3 3, .map (some (w.heap.size + 1))] 107)).alloc (.cells #[.int .i64 0] 3)) B0 := by
 refine ⟨⟨by simp [go_sem], by simp [go_sem], by simp [go_sem], by simp [go_sem], by simp [go_sem], by simp [go_sem], bal (bal (bal (bal (Below.refl _ _) _) _) _) _, by simp⟩, ?_, by simp [go_sem]⟩
 have h := ((World.ownsMap_made (w.alloc (.cells (Mv.cells (tgM B0 B1 B2 B3) 3) 51)) Tryz.prog 3 slR).alloc (.cells #[.pointer none, .slice (some ⟨B0, 0, none⟩) 3 3, .map (some (w.heap.size + 1))] 107)).alloc (.cells #[.int .i64 0] 3)
 simpa using h
theorem index0 (w : World) : (Instr.index 71 (.agg #[.int .i64 2, .int .i64 3]) (.int .i64 0)).run Tryz.prog w = .ok (.int .i64 2) w := by kernel_rfl
theorem index1 (w : World) : (Instr.index 71 (.agg #[.int .i64 2, .int .i64 3]) (.int .i64 1)).run Tryz.prog w = .ok (.int .i64 3) w := by kernel_rfl
structure Bz (w : World) (P M B0 G n : Nat) (D : DataW Unit) : Prop where
 b1 : w.cell? ⟨P, 1, none⟩ = some (.slice (some ⟨B0, 0, none⟩) 3 3)
 b2 : w.cell? ⟨P, 2, none⟩ = some (.map (some M))
 own : w.ownsMap Tryz.prog 3 slR M n D
 has1 : Maps.has D (.int .i64 1) = true
 at1 : D.atKey (.int .i64 1) .nil = slD G 0 1 1
 row : Go.Proofs.YtmambfdimeeijaaGreatDoor.IRow w G [2]
 ltM : M < w.heap.size
 nePM : P ≠ M
 neGM : G ≠ M
structure Gz (w : World) (P M : Nat) : Prop where
 g : ∃ X pv cv, w.cell? ⟨P, 0, none⟩ = some (.pointer (some ⟨X, 0, none⟩)) ∧ w.cell? ⟨X, 0, none⟩ = some (.int .i64 1) ∧ w.cell? ⟨X, 1, none⟩ = some (.slice pv 0 cv) ∧ P ≠ M ∧ X ≠ M
theorem map_nil : IsMap (DataW.map [] : DataW Unit) := ⟨[], rfl⟩
theorem no_two {z : Int} (h : z ≠ 1) (d : DataW Unit) : Maps.has ((DataW.map [] : DataW Unit).put (.int .i64 1) d) (.int .i64 z) = false := by
 rw [has_put_other (by simp; omega)]; rfl
theorem nil_two {z : Int} (h : z ≠ 1) (d : DataW Unit) : ((DataW.map [] : DataW Unit).put (.int .i64 1) d).atKey (.int .i64 z) .nil = .nil := by
 rw [atKey_put_other (by simp; omega)]; rfl
theorem bz_first {w w4 : World} {B0 G X : Nat} (hs : StB w w4 B0 G) : Bz (w4.setCell ⟨w.heap.size + 2, 0, none⟩ (.pointer (some ⟨X, 0, none⟩))) (w.heap.size + 2) (w.heap.size + 1) B0 G 1 ((DataW.map []).put (.int .i64 1) (slD G 0 1 1)) := by
 have := hs.c.sz
 have := hs.g
 refine ⟨?_, ?_, map_block hs.own (Below.heap_setCell w4 _ _ _ (by simp)), ?_, ?_, hs.row.kept (Below.heap_setCell w4 _ _ _ (by simp; omega)), by simp; omega, by omega, by omega⟩
 · rw [World.cell?_setCell_other w4 _ _ _ (by simp)]; exact hs.c.b1
 · rw [World.cell?_setCell_other w4 _ _ _ (by simp)]; exact hs.c.b2
 · exact has_put_same map_nil (k := .int .i64 1) trivial _
 · exact atKey_put_same map_nil (k := .int .i64 1) trivial _ _
theorem StB.later {w wr w1 : World} {B0 G : Nat} (h : StB w wr B0 G) (hb : Below wr.heap.size wr w1) : StB w w1 B0 G := ⟨h.c.later hb, map_block h.own (hb.block _ (by have := h.c.sz; omega)), cell_later hb h.cnt, h.row.kept (hb.block _ (World.block_lt_of_cell? _ _ (h.row 0 (by simp)).1)), h.g⟩
def StK (w wr : World) (B0 k : Nat) : Prop := (k ≤ 1 ∧ StA w wr B0) ∨ (k = 2 ∧ ∃ G, StB w wr B0 G)
set_option maxHeartbeats 8000000 in
theorem startT_any {z : Int} (hz : z ≠ 1) (B0 B1 B2 B3 : Nat) (w : World) (hT : TgAt w B0 B1 B2 B3 z) :
   Calls Tryz.prog 64 #[Mv.val (tgM B0 B1 B2 B3) 3] w fun e w' => ∃ P M G D, e = .returned (.pointer (some ⟨P, 0, none⟩)) ∧ Bz w' P M B0 G 1 D ∧ Maps.has D (.int .i64 z) = false ∧ D.atKey (.int .i64 z) .nil = .nil ∧ Gz w' P M ∧ w.heap.size ≤ M ∧ Below w.heap.size w w' := by
 have HT := hide hT
 have HZ1 := hide hz
 clear hz
 have hmm := run_makeMap70
 have HZ := hide (st_zero w B0 B1 B2 B3)
 have HOK2 := hide (fun (w' : World) (hb : Below w.heap.size w w') => ofKind_any (some ⟨B0, 0, none⟩) 3 tgN (by decide) 2 w' (hT.n.later hb))
 have HOK3 := hide (fun (w' : World) (hb : Below w.heap.size w w') => ofKind_any (some ⟨B0, 0, none⟩) 3 tgN (by decide) 3 w' (hT.n.later hb))
 rw [tg_sel2] at HOK2
 rw [tg_sel] at HOK3
 clear hT
 go_enter Tryz.func64, Tryz.ntmps64
 go_wp2
 go_loopw [17] (fun i wr => ∃ k : Nat, k ≤ 2 ∧ i = .int .i64 k ∧ Hid (StK w wr B0 k)) (fun i _ => 2 - (intOf i).toNat)
 case atStart => exact ⟨0, Nat.zero_le _, rfl, Or.inl ⟨Nat.zero_le _, HZ.out⟩⟩
 case round =>
   clear HZ
   obtain ⟨k, hk, rfl, HS⟩ := hrel
   rcases HS.out with ⟨hk1, hA⟩ | ⟨rfl, G, hBB⟩
   · have HA := hide hA
     have q0 := hA.c.q0
     have HB0 := hide hA.c.bel
     clear hA
     by_cases hk0 : k = 0
     · subst hk0
       have hix := index0
       go_wp2_with fail
       refine (HOK2.out _ HB0.out).mono ?_
       rintro e w1 ⟨p1, c1, rfl, _, hb1⟩
       have HA1 := hide (HA.out.later hb1)
       clear hb1 q0 HA
       go_wp2
       go_loopw [25] (fun i wr => i = .int .i64 0 ∧ wr = w1) (fun _ _ => 0)
       case atStart => exact ⟨rfl, rfl⟩
       case round =>
         obtain ⟨rfl, rfl⟩ := hrel
         go_wp2
         go_roundw
         case rel => exact ⟨1, by omega, by go_num, Or.inl ⟨Nat.le_refl _, HA1.out⟩⟩
         case measure => simp [intOf]
     · obtain rfl : k = 1 := by omega
       have hix := index1
       go_wp2_with fail
       refine (HOK3.out _ HB0.out).mono ?_
       rintro e w1 ⟨p1, c1, rfl, hI1, hb1⟩
       have HA1 := hide (HA.out.later hb1)
       have HI1 := hide hI1
       clear hb1 q0 HA hI1
       go_wp2
       go_loopw [25] (fun i wr => ∃ j : Nat, j ≤ 1 ∧ i = .int .i64 j ∧ ((j = 0 ∧ wr = w1) ∨ (j = 1 ∧ Hid (∃ G, StB w wr B0 G)))) (fun i _ => 1 - (intOf i).toNat)
       case atStart => exact ⟨0, by omega, rfl, Or.inl ⟨rfl, rfl⟩⟩
       case round =>
         obtain ⟨j, hj, rfl, ⟨rfl, hw1⟩ | ⟨rfl, HBB⟩⟩ := hrel
         · subst hw1
           obtain ⟨b, off, rfl, hc⟩ := HI1.out (by simp)
           have hc0 : wr.cell? ⟨b, off, none⟩ = some (.int .i64 1) := by simpa using hc 0 (by simp)
           obtain ⟨nb, no, hne, hnc⟩ := (HT.out.n.later HA1.out.c.bel) (by decide)
           cases hne
           have n1 := (hnc 1 (by decide)).2.1
           simp [tgN] at n1
           have j2 : wr.cell? ⟨w.heap.size + 1 + 1, 2, none⟩ = some (.map (some (w.heap.size + 1))) := HA1.out.c.b2
           have j0 := HA1.out.c.q0
           have hBne : B0 < w.heap.size := by
             obtain ⟨nb, no, hne, hnc⟩ := HT.out.n (by decide)
             cases hne
             exact World.block_lt_of_cell? _ _ (hnc 1 (by decide)).2.1
           have HNI := hide (nextIn_any (w.heap.size + 3) wr.drew w.heap.size (by omega) (by have := HA1.out.c.sz; simp; omega) HA1.out.cnt HA1.out.c.i)
           clear hc hnc
           go_wp2
           go_region_held3 (fun w' => w'.cell? ⟨w.heap.size + 1 + 1, 2, none⟩ = some (.map (some (w.heap.size + 1))) ∧ w'.cell? ⟨w.heap.size, 0, none⟩ = some (.slice (some ⟨B0, 0, none⟩) 3 3) ∧ w'.cell? ⟨B0, 7, none⟩ = some (.int .i64 1))
             (first
               | exact ⟨hg3.cell m2 (by simp), hg3.cell m0 (by simp), hg3.cell m7 (by simp; omega)⟩
               | exact ⟨m2, m0, m7⟩
               | go_keep)
             ((go_at_call 93; refine HNI.out.mono ?_; rintro e w2 ⟨G, rfl, hG, hr, hcn, hfn, hb2, hk2⟩
               have m2 : w2.cell? ⟨w.heap.size + 1 + 1, 2, none⟩ = some (.map (some (w.heap.size + 1))) := kept_cell j2 hk2 (by simp)
               have m0 : w2.cell? ⟨w.heap.size, 0, none⟩ = some (.slice (some ⟨B0, 0, none⟩) 3 3) := kept_cell j0 hk2 (by simp)
               have m7 : w2.cell? ⟨B0, 7, none⟩ = some (.int .i64 1) := kept_cell n1 hk2 (by simp; omega)
               obtain ⟨w3, hput, hown3, hg3⟩ := put70 (map_block HA1.out.own (hk2 (w.heap.size + 1) (by omega) (by have := HA1.out.c.sz; simp; omega))) (by omega) (x := 1) (by decide) (by decide) G 0 1 1))
           rename_i hHeld
           have HSB := hide (st_made HA1.out (Nat.le_trans (by simp) hb2.size) (by simpa using hG) hr hcn hfn ((Below.refl _ wr).drew.trans hb2) hk2 hown3 hg3)
           clear hHeld hr hcn hfn hb2 hk2 hown3 hg3 hput m2 m0 m7 HNI hG j2 j0 n1 hc0
           go_wp2
           go_roundw
           case rel => exact ⟨1, by omega, by go_num, Or.inr ⟨rfl, G, HSB.out⟩⟩
           case measure => simp [intOf]
         · go_wp2
           go_roundw
           case rel => exact ⟨2, by omega, by go_num, Or.inr ⟨rfl, HBB.out⟩⟩
           case measure => simp [intOf]
   · have x0 := hBB.cnt
     have HBB := hide hBB
     clear hBB
     have hcnt : wr.cell? ⟨w.heap.size + 1 + 1 + 1, 0, none⟩ = some (.int .i64 1) := x0
     have HF := hide (fun w1 => Go.Proofs.YtmambfdimeeijaaGreatDoor.from_any 1 none 0 [] (fun i h => by simp at h) (by simp) (by decide) (by decide) w1 (fun h => by simp at h))
     go_wp2_with fail
     refine (HF.out _).mono ?_
     rintro e w4 ⟨X, Bx, vx, Dx, rfl, hmk, _, _, hb4⟩
     have HS4 := hide (HBB.out.later hb4)
     have g0 : w4.cell? ⟨w.heap.size + 1 + 1, 0, none⟩ = some (.pointer none) := HS4.out.c.b0
     have g1 : w4.frozen? ⟨w.heap.size + 1 + 1, 0, none⟩ = false := HS4.out.c.bf
     have HMK := hide hmk
     have HB4 := hide hb4
     clear hb4 hmk x0 hcnt HF
     go_wp2
     go_ret
     obtain ⟨pv, cv, rfl, _⟩ := Go.Proofs.YtmambfdimeeijaaGreatDoor.owns_pairs HMK.out.row
     have hX := HMK.out.hM
     have hs := HBB.out.c.sz
     have hp := World.cell?_setCell_same w4 ⟨w.heap.size + 2, 0, none⟩ (.pointer (some ⟨X, 0, none⟩)) HS4.out.c.b0
     refine ⟨w.heap.size + 2, w.heap.size + 1, G, _, rfl, bz_first HS4.out, no_two HZ1.out _, nil_two HZ1.out _, ⟨X, pv, cv, hp, ?_, ?_, by omega, by omega⟩, by omega, (bthen HBB.out.c.bel HB4.out).setCell (p := ⟨w.heap.size + 2, 0, none⟩) (by simp) _⟩
     · rw [World.cell?_setCell_other w4 _ _ _ (by simp)]; exact HMK.out.c0
     · rw [World.cell?_setCell_other w4 _ _ _ (by simp)]; exact HMK.out.c1
end Go.Proofs.YtmambfdimeeijaaGreatDoor.Ev
