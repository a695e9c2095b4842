/- A map from numbers to lists: what is read of it, and what is put there. -/
import Derived.Test.YtabnimgpednhjabGreatBg
namespace Go.Proofs.YtabnimgpednhjabGreat
open Go.RowKit Go.Maps
set_option maxRecDepth 100000

/-- A list's place, as data. -/
def slD (b o n c : Nat) : DataW Unit := .agg [.lit (.int .i64 b), .lit (.int .i64 o), .lit (.int .i64 n), .lit (.int .i64 c)]
def slR : Value → Option (DataW Unit × List MemPlace)
  | .slice (some ⟨b, o, none⟩) n c => some (slD b o n c, [])
  | .slice none 0 0 => some (.nil, [])
  | _ => none
theorem slR_some (b o n c : Nat) : slR (.slice (some ⟨b, o, none⟩) n c) = some (slD b o n c, []) := rfl
theorem slR_nil : slR (.slice none 0 0) = some (.nil, []) := rfl
theorem slD_inj {b o n c b' o' n' c' : Nat} (h : slD b o n c = slD b' o' n' c') : b = b' ∧ o = o' ∧ n = n' ∧ c = c' := by
  unfold slD at h
  simp at h
  omega
theorem slR_inv {v : Value} {b o n c : Nat} {ps : List MemPlace} (h : slR v = some (slD b o n c, ps)) : v = .slice (some ⟨b, o, none⟩) n c := by
  unfold slR at h
  split at h
  · injection h with h
    obtain ⟨h1, _⟩ := Prod.mk.inj h
    obtain ⟨rfl, rfl, rfl, rfl⟩ := slD_inj h1
    rfl
  · injection h with h
    obtain ⟨h1, _⟩ := Prod.mk.inj h
    unfold slD at h1
    cases h1
  · cases h
theorem slR_inv_nil {v : Value} {ps : List MemPlace} (h : slR v = some (.nil, ps)) : v = .slice none 0 0 := by
  unfold slR at h
  split at h
  · injection h with h
    obtain ⟨h1, _⟩ := Prod.mk.inj h
    unfold slD at h1
    cases h1
  · rfl
  · cases h
theorem zero25 (w : World) : (zeroValue 25).run Tryz.prog w = .ok (.slice none 0 0) w := by kernel_rfl

theorem look70_yes {w : World} {M n : Nat} {D : DataW Unit} (h : w.ownsMap Tryz.prog 3 slR M n D) {x : Int} (hx : 0 ≤ x) (hx2 : x ≤ 1000) {b o m c : Nat} (hh : Maps.has D (.int .i64 x) = true) (ha : D.atKey (.int .i64 x) .nil = slD b o m c) :
    (Instr.lookup 70 (.map (some M)) (.int .i64 x) true).run Tryz.prog w = .ok (.tuple #[.slice (some ⟨b, o, none⟩) m c, .bool true]) w := by
  have hkey : keyOf Tryz.prog 3 (.int .i64 x) = some (.int .i64 x) := keyOf_int_mk Tryz.underlying3 (WalkArith.wf_i64 (by omega))
  obtain ⟨v, ps, h1, h2⟩ := World.ownsMap.look_ok h law3 Tryz.underlying70 (zero25 _) slR_nil hkey
  rw [ha] at h2
  rw [h1, hh, slR_inv h2]
theorem look70_no {w : World} {M n : Nat} {D : DataW Unit} (h : w.ownsMap Tryz.prog 3 slR M n D) {x : Int} (hx : 0 ≤ x) (hx2 : x ≤ 1000) (hh : Maps.has D (.int .i64 x) = false) (ha : D.atKey (.int .i64 x) .nil = .nil) :
    (Instr.lookup 70 (.map (some M)) (.int .i64 x) true).run Tryz.prog w = .ok (.tuple #[.slice none 0 0, .bool false]) w := by
  have hkey : keyOf Tryz.prog 3 (.int .i64 x) = some (.int .i64 x) := keyOf_int_mk Tryz.underlying3 (WalkArith.wf_i64 (by omega))
  obtain ⟨v, ps, h1, h2⟩ := World.ownsMap.look_ok h law3 Tryz.underlying70 (zero25 _) slR_nil hkey
  rw [ha] at h2
  rw [h1, hh, slR_inv_nil h2]
theorem put70 {w : World} {M n : Nat} {D : DataW Unit} (h : w.ownsMap Tryz.prog 3 slR M n D) (hn : n < 1000000) {x : Int} (hx : 0 ≤ x) (hx2 : x ≤ 1000) (b o m c : Nat) :
    ∃ w', (Instr.mapUpdate 70 (.map (some M)) (.int .i64 x) (.slice (some ⟨b, o, none⟩) m c)).run Tryz.prog w = .ok () w' ∧ w'.ownsMap Tryz.prog 3 slR M (n + 1) (D.put (.int .i64 x) (slD b o m c)) ∧ w.grownBy w' (some M) :=
  h.update law3 Tryz.underlying70 (by unfold maxLen; omega) (keyOf_int_mk Tryz.underlying3 (WalkArith.wf_i64 (by omega))) (slR_some b o m c)

end Go.Proofs.YtabnimgpednhjabGreat

namespace Go.Proofs.YtabnimgpednhjabGreat
open Go.RowKit Go.Maps
set_option maxRecDepth 100000

set_option maxHeartbeats 2000000 in
theorem operateNot_any (wd xa xb xc xn : Int) (l : List Int) (p : Option Addr) (cap : Nat) (py pz : Option Addr) (ly lz cy cz : Nat) (pb : Option Addr) (hl : ∀ x ∈ l, 0 ≤ x ∧ x ≤ 10000000) (hn : l.length ≤ 1000) (w : World) (hI : Gg.IntsAt w p l) :
    Calls Tryz.prog 86 #[.pointer pb, .agg #[.int .i64 4, .int .i64 wd, .int .i64 xa, .int .i64 xb, .int .i64 xc, .int .i64 xn], .slice p l.length cap, .slice py ly cy, .slice pz lz cz] w fun e w' => ∃ G, e = .returned (.slice (some ⟨G, 0, none⟩) l.length l.length) ∧ w.heap.size ≤ G ∧ Gg.IRow w' G (l.map Gg.turn) ∧ Below w.heap.size w w' := by
  have HT := hide (fun (w' : World) (hb : Below w.heap.size w w') => Gg.turnedB_any l p cap hl hn w' (hI.later hb))
  clear hl hI
  go_enter Tryz.func86, Tryz.ntmps86
  go_wp2_with fail
  refine (HT.out _ (bal (bal (bal (bal (bal (Below.refl _ _) _) _) _) _) _)).mono ?_
  rintro e w1 ⟨G, rfl, hG, hr, hb⟩
  have hG2 : w.heap.size ≤ G := by simp at hG; omega
  have HR := hide hr
  have HB := hide (bthen (bal (bal (bal (bal (bal (Below.refl w.heap.size w) _) _) _) _) _) hb)
  clear hr hb hG HT
  go_wp2
  go_ret
  exact ⟨G, rfl, hG2, HR.out, HB.out⟩

end Go.Proofs.YtabnimgpednhjabGreat

namespace Go.Proofs.YtabnimgpednhjabGreat
open Go.RowKit Go.Maps
set_option maxRecDepth 100000

theorem map_block {w w1 : World} {M n : Nat} {D : DataW Unit} {R : Value → Option (DataW Unit × List MemPlace)} (h : w.ownsMap Tryz.prog 3 R M n D) (hb : w1.heap[M]? = w.heap[M]?) : w1.ownsMap Tryz.prog 3 R M n D := by
  obtain ⟨es, clock, hh, hr⟩ := h
  exact ⟨es, clock, by rw [hb]; exact hh, hr⟩

/-- One In, made by the function that counts them. -/
theorem nextIn_any (Bi : Nat) (w : World) (base : Nat) (hb : base ≤ Bi) (hB : base ≤ w.heap.size) (c0 : w.cell? ⟨Bi, 0, none⟩ = some (.int .i64 0)) (f0 : w.frozen? ⟨Bi, 0, none⟩ = false) :
    Calls Tryz.prog 56 #[.int .i64 1, .func (.func 58) #[] #[.pointer (some ⟨Bi, 0, none⟩)]] w fun e w' => ∃ G, e = .returned (.slice (some ⟨G, 0, none⟩) 1 1) ∧ w.heap.size ≤ G ∧ Gg.IRow w' G [2] ∧ w'.cell? ⟨Bi, 0, none⟩ = some (.int .i64 1) ∧ w'.frozen? ⟨Bi, 0, none⟩ = false ∧ Below base w w' ∧ ∀ g, ¬ g = Bi → g < w.heap.size → w'.heap[g]? = w.heap[g]? := by
  have h := Gg.made_any 58 (.pointer (some ⟨Bi, 0, none⟩)) (fun k => 2 * ((k : Int) + 1)) 1 base (by omega) (fun g => g = Bi) (fun k wr => wr.cell? ⟨Bi, 0, none⟩ = some (.int .i64 (k : Int)) ∧ wr.frozen? ⟨Bi, 0, none⟩ = false) w hB (fun g h => by subst h; exact World.block_lt_of_cell? _ _ c0) ⟨c0, f0⟩
    (fun _ w1 w2 h hk => ⟨Gg.cell_block h.1 (hk _ rfl), by rw [World.frozen?_of_block (w := w1) (a := ⟨Bi, 0, none⟩) (hk _ rfl)]; exact h.2⟩) Gg.enter58
    (fun k hk wr _ hj => (Gg.start1_any k k (by omega) Bi wr hj.1 hj.2).mono fun e w' ⟨h1, h2⟩ => by
      subst h2
      exact ⟨h1, ⟨World.cell?_setCell_same wr _ _ hj.1, by rw [World.frozen?_setCell]; exact hj.2⟩, (Below.refl _ wr).setCell hb _, fun g hg _ => Below.heap_setCell wr _ _ g (by simpa using hg)⟩)
  exact h.mono fun e w' ⟨G, h1, h2, h3, h4, h5, h6⟩ => ⟨G, h1, h2, h3, h4.1, h4.2, h5, h6⟩

end Go.Proofs.YtabnimgpednhjabGreat

namespace Go.Proofs.YtabnimgpednhjabGreat
open Go.RowKit Go.Maps
set_option maxRecDepth 100000

/-- What stands in any case, while the Ins are made. -/
structure StC (w wr : World) (B0 : Nat) : Prop where
  q0 : wr.cell? ⟨w.heap.size, 0, none⟩ = some (.slice (some ⟨B0, 0, none⟩) 3 3)
  b0 : wr.cell? ⟨w.heap.size + 2, 0, none⟩ = some (.pointer none)
  b1 : wr.cell? ⟨w.heap.size + 2, 1, none⟩ = some (.slice (some ⟨B0, 0, none⟩) 3 3)
  b2 : wr.cell? ⟨w.heap.size + 2, 2, none⟩ = some (.map (some (w.heap.size + 1)))
  bf : wr.frozen? ⟨w.heap.size + 2, 0, none⟩ = false
  i : wr.frozen? ⟨w.heap.size + 3, 0, none⟩ = false
  bel : Below w.heap.size w wr
  sz : w.heap.size + 4 ≤ wr.heap.size
theorem StC.later {w wr w1 : World} {B0 : Nat} (h : StC w wr B0) (hb : Below wr.heap.size wr w1) : StC w w1 B0 :=
  ⟨cell_later hb h.q0, cell_later hb h.b0, cell_later hb h.b1, cell_later hb h.b2, by rw [hb.frozen (World.block_lt_of_cell? _ _ h.b0)]; exact h.bf, by rw [hb.frozen (by have := h.sz; simp; omega)]; exact h.i, bthen h.bel hb, Nat.le_trans h.sz hb.size⟩
/-- Ahead of them. -/
structure StA (w wr : World) (B0 : Nat) : Prop where
  c : StC w wr B0
  own : wr.ownsMap Tryz.prog 3 slR (w.heap.size + 1) 0 (.map [])
  cnt : wr.cell? ⟨w.heap.size + 3, 0, none⟩ = some (.int .i64 0)
theorem StA.later {w wr w1 : World} {B0 : Nat} (h : StA w wr B0) (hb : Below wr.heap.size wr w1) : StA w w1 B0 := ⟨h.c.later hb, map_block h.own (hb.block _ (by have := h.c.sz; omega)), cell_later hb h.cnt⟩
/-- Behind them. -/
structure StB (w wr : World) (B0 G : Nat) : Prop where
  c : StC w wr B0
  own : wr.ownsMap Tryz.prog 3 slR (w.heap.size + 1) 1 ((DataW.map []).put (.int .i64 1) (slD G 0 1 1))
  cnt : wr.cell? ⟨w.heap.size + 3, 0, none⟩ = some (.int .i64 1)
  row : Gg.IRow wr G [2]
  g : w.heap.size + 4 ≤ G

theorem kept_cell {w1 w2 : World} {a : Addr} {v : Value} {x : Nat} (h : w1.cell? a = some v) (hk : ∀ g, ¬ g = x → g < w1.heap.size → w2.heap[g]? = w1.heap[g]?) (hne : a.block ≠ x) : w2.cell? a = some v :=
  Gg.cell_block h (hk _ hne (World.block_lt_of_cell? _ _ h))

/-- What the first In leaves. -/
theorem st_made {w wr w1 w2 : World} {B0 G : Nat} (h : StA w wr B0) (hsz : wr.heap.size ≤ w1.heap.size) (hG : wr.heap.size ≤ G) (hr : Gg.IRow w1 G [2]) (hc : w1.cell? ⟨w.heap.size + 3, 0, none⟩ = some (.int .i64 1)) (hf : w1.frozen? ⟨w.heap.size + 3, 0, none⟩ = false)
    (hb : Below w.heap.size wr w1) (hk : ∀ g, ¬ g = w.heap.size + 3 → g < wr.heap.size → w1.heap[g]? = wr.heap[g]?)
    (hown : w2.ownsMap Tryz.prog 3 slR (w.heap.size + 1) 1 ((DataW.map []).put (.int .i64 1) (slD G 0 1 1))) (hg : w1.grownBy w2 (some (w.heap.size + 1))) : StB w w2 B0 G := by
  have hs := h.c.sz
  have hfz : ∀ a x, wr.cell? ⟨w.heap.size + 2, a, none⟩ = some x → wr.frozen? ⟨w.heap.size + 2, a, none⟩ = false → w1.frozen? ⟨w.heap.size + 2, a, none⟩ = false := fun a x h1 h2 => by
    rw [World.frozen?_of_block (w := wr) (a := ⟨w.heap.size + 2, a, none⟩) (hk _ (by simp) (World.block_lt_of_cell? _ _ h1))]; exact h2
  have b0' := kept_cell h.c.b0 hk (by simp)
  refine ⟨⟨hg.cell (kept_cell h.c.q0 hk (by simp)) (by simp), hg.cell b0' (by simp), hg.cell (kept_cell h.c.b1 hk (by simp)) (by simp), hg.cell (kept_cell h.c.b2 hk (by simp)) (by simp), ?_, ?_, ?_, ?_⟩, hown, hg.cell hc (by simp), ?_, by omega⟩
  · rw [Gg.grown_frozen hg b0' (by simp)]; exact hfz _ _ h.c.b0 h.c.bf
  · rw [Gg.grown_frozen hg hc (by simp)]; exact hf
  · exact (h.c.bel.trans hb).grown hg (by omega) (fun j hj => by cases hj; omega)
  · have := hg.size; omega
  · exact hr.kept (hg.block G (World.block_lt_of_cell? _ _ (hr 0 (by simp)).1) (by simp; omega))

end Go.Proofs.YtabnimgpednhjabGreat
