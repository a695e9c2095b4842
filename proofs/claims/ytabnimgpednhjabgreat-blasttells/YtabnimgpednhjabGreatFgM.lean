import Derived.Test.YtabnimgpednhjabGreatBgM
import Derived.Test.YtabnimgpednhjabGreatRbM
import Derived.Test.YtabnimgpednhjabGreatEbM
import Derived.Test.YtabnimgpednhjabGreatEc
namespace Go.Proofs.YtabnimgpednhjabGreat
open Go.RowKit Go.Maps
set_option maxRecDepth 100000
def slD (b o n c : Nat) : DataW Unit := .agg [.lit (.int .i64 b), .lit (.int .i64 o), .lit (.int .i64 n), .lit (.int .i64 c)]
def slR : Value → Option (DataW Unit × List MemPlace)
 | .slice (some ⟨b, o, none⟩) n c => some (slD b o n c, [])
 | .slice none 0 0 => some (.nil, [])
 | _ => none
theorem slR_some (b o n c : Nat) : slR (.slice (some ⟨b, o, none⟩) n c) = some (slD b o n c, []) := rfl
theorem slR_nil : slR (.slice none 0 0) = some (.nil, []) := rfl
theorem slD_inj {b o n c b' o' n' c' : Nat} (h : slD b o n c = slD b' o' n' c') : b = b' ∧ o = o' ∧ n = n' ∧ c = c' := by
 unfold slD at h
 simp at h
 omega
theorem slR_inv {v : Value} {b o n c : Nat} {ps : List MemPlace} (h : slR v = some (slD b o n c, ps)) : v = .slice (some ⟨b, o, none⟩) n c := by
 unfold slR at h
 split at h
 · injection h with h
   obtain ⟨h1, _⟩ := Prod.mk.inj h
   obtain ⟨rfl, rfl, rfl, rfl⟩ := slD_inj h1
   rfl
 · injection h with h
   obtain ⟨h1, _⟩ := Prod.mk.inj h
   unfold slD at h1
   cases h1
 · cases h
theorem slR_inv_nil {v : Value} {ps : List MemPlace} (h : slR v = some (.nil, ps)) : v = .slice none 0 0 := by
 unfold slR at h
 split at h
 · injection h with h
   obtain ⟨h1, _⟩ := Prod.mk.inj h
   unfold slD at h1
   cases h1
 · rfl
 · cases h
theorem zero25 (w : World) : (zeroValue 25).run Tryz.prog w = .ok (.slice none 0 0) w := by kernel_rfl
theorem look70_yes {w : World} {M n : Nat} {D : DataW Unit} (h : w.ownsMap Tryz.prog 3 slR M n D) {x : Int} (hx : 0 ≤ x) (hx2 : x ≤ 1000) {b o m c : Nat} (hh : Maps.has D (.int .i64 x) = true) (ha : D.atKey (.int .i64 x) .nil = slD b o m c) :
   (Instr.lookup 70 (.map (some M)) (.int .i64 x) true).run Tryz.prog w = .ok (.tuple #[.slice (some ⟨b, o, none⟩) m c, .bool true]) w := by
 have hkey : keyOf Tryz.prog 3 (.int .i64 x) = some (.int .i64 x) := keyOf_int_mk Tryz.underlying3 (WalkArith.wf_i64 (by omega))
 obtain ⟨v, ps, h1, h2⟩ := World.ownsMap.look_ok h law3 Tryz.underlying70 (zero25 _) slR_nil hkey
 rw [ha] at h2
 rw [h1, hh, slR_inv h2]
theorem look70_no {w : World} {M n : Nat} {D : DataW Unit} (h : w.ownsMap Tryz.prog 3 slR M n D) {x : Int} (hx : 0 ≤ x) (hx2 : x ≤ 1000) (hh : Maps.has D (.int .i64 x) = false) (ha : D.atKey (.int .i64 x) .nil = .nil) :
   (Instr.lookup 70 (.map (some M)) (.int .i64 x) true).run Tryz.prog w = .ok (.tuple #[.slice none 0 0, .bool false]) w := by
 have hkey : keyOf Tryz.prog 3 (.int .i64 x) = some (.int .i64 x) := keyOf_int_mk Tryz.underlying3 (WalkArith.wf_i64 (by omega))
 obtain ⟨v, ps, h1, h2⟩ := World.ownsMap.look_ok h law3 Tryz.underlying70 (zero25 _) slR_nil hkey
 rw [ha] at h2
 rw [h1, hh, slR_inv_nil h2]
theorem put70 {w : World} {M n : Nat} {D : DataW Unit} (h : w.ownsMap Tryz.prog 3 slR M n D) (hn : n < 1000000) {x : Int} (hx : 0 ≤ x) (hx2 : x ≤ 1000) (b o m c : Nat) :
   ∃ w', (Instr.mapUpdate 70 (.map (some M)) (.int .i64 x) (.slice (some ⟨b, o, none⟩) m c)).run Tryz.prog w = .ok () w' ∧ w'.ownsMap Tryz.prog 3 slR M (n + 1) (D.put (.int .i64 x) (slD b o m c)) ∧ w.grownBy w' (some M) :=
 h.update law3 Tryz.underlying70 (by unfold maxLen; omega) (keyOf_int_mk Tryz.underlying3 (WalkArith.wf_i64 (by omega))) (slR_some b o m c)
end Go.Proofs.YtabnimgpednhjabGreat

namespace Go.Proofs.YtabnimgpednhjabGreat
open Go.RowKit Go.Maps
set_option maxRecDepth 100000
set_option maxHeartbeats 2000000 in
theorem operateNot_any (wd xa xb xc xn : Int) (l : List Int) (p : Option Addr) (cap : Nat) (py pz : Option Addr) (ly lz cy cz : Nat) (pb : Option Addr) (hl : ∀ x ∈ l, 0 ≤ x ∧ x ≤ 10000000) (hn : l.length ≤ 1000) (w : World) (hI : Gg.IntsAt w p l) :
   Calls Tryz.prog 86 #[.pointer pb, .agg #[.int .i64 4, .int .i64 wd, .int .i64 xa, .int .i64 xb, .int .i64 xc, .int .i64 xn], .slice p l.length cap, .slice py ly cy, .slice pz lz cz] w fun e w' => ∃ G, e = .returned (.slice (some ⟨G, 0, none⟩) l.length l.length) ∧ w.heap.size ≤ G ∧ Gg.IRow w' G (l.map Gg.turn) ∧ Below w.heap.size w w' := by
 have HT := hide (fun (w' : World) (hb : Below w.heap.size w w') => Gg.turnedB_any l p cap hl hn w' (hI.later hb))
 clear hl hI
 go_enter Tryz.func86, Tryz.ntmps86
 go_wp2_with fail
 refine (HT.out _ (bal (bal (bal (bal (bal (Below.refl _ _) _) _) _) _) _)).mono ?_
 rintro e w1 ⟨G, rfl, hG, hr, hb⟩
 have hG2 : w.heap.size ≤ G := by simp at hG; omega
 have HR := hide hr
 have HB := hide (bthen (bal (bal (bal (bal (bal (Below.refl w.heap.size w) _) _) _) _) _) hb)
 clear hr hb hG HT
 go_wp2
 go_ret
 exact ⟨G, rfl, hG2, HR.out, HB.out⟩
end Go.Proofs.YtabnimgpednhjabGreat

namespace Go.Proofs.YtabnimgpednhjabGreat
open Go.RowKit Go.Maps
set_option maxRecDepth 100000
theorem map_block {w w1 : World} {M n : Nat} {D : DataW Unit} {R : Value → Option (DataW Unit × List MemPlace)} (h : w.ownsMap Tryz.prog 3 R M n D) (hb : w1.heap[M]? = w.heap[M]?) : w1.ownsMap Tryz.prog 3 R M n D := by
 obtain ⟨es, clock, hh, hr⟩ := h
 exact ⟨es, clock, by rw [hb]; exact hh, hr⟩
theorem nextIn_any (Bi : Nat) (w : World) (base : Nat) (hb : base ≤ Bi) (hB : base ≤ w.heap.size) (c0 : w.cell? ⟨Bi, 0, none⟩ = some (.int .i64 0)) (f0 : w.frozen? ⟨Bi, 0, none⟩ = false) :
   Calls Tryz.prog 56 #[.int .i64 1, .func (.func 58) #[] #[.pointer (some ⟨Bi, 0, none⟩)]] w fun e w' => ∃ G, e = .returned (.slice (some ⟨G, 0, none⟩) 1 1) ∧ w.heap.size ≤ G ∧ Gg.IRow w' G [2] ∧ w'.cell? ⟨Bi, 0, none⟩ = some (.int .i64 1) ∧ w'.frozen? ⟨Bi, 0, none⟩ = false ∧ Below base w w' ∧ ∀ g, ¬ g = Bi → g < w.heap.size → w'.heap[g]? = w.heap[g]? := by
 have h := Gg.made_any 58 (.pointer (some ⟨Bi, 0, none⟩)) (fun k => 2 * ((k : Int) + 1)) 1 base (by omega) (fun g => g = Bi) (fun k wr => wr.cell? ⟨Bi, 0, none⟩ = some (.int .i64 (k : Int)) ∧ wr.frozen? ⟨Bi, 0, none⟩ = false) w hB (fun g h => by subst h; exact World.block_lt_of_cell? _ _ c0) ⟨c0, f0⟩
   (fun _ w1 w2 h hk => ⟨Gg.cell_block h.1 (hk _ rfl), by rw [World.frozen?_of_block (w := w1) (a := ⟨Bi, 0, none⟩) (hk _ rfl)]; exact h.2⟩) Gg.enter58
   (fun k hk wr _ hj => (Gg.start1_any k k (by omega) Bi wr hj.1 hj.2).mono fun e w' ⟨h1, h2⟩ => by
     subst h2
     exact ⟨h1, ⟨World.cell?_setCell_same wr _ _ hj.1, by rw [World.frozen?_setCell]; exact hj.2⟩, (Below.refl _ wr).setCell hb _, fun g hg _ => Below.heap_setCell wr _ _ g (by simpa using hg)⟩)
 exact h.mono fun e w' ⟨G, h1, h2, h3, h4, h5, h6⟩ => ⟨G, h1, h2, h3, h4.1, h4.2, h5, h6⟩
end Go.Proofs.YtabnimgpednhjabGreat

namespace Go.Proofs.YtabnimgpednhjabGreat.Gg
open Go.RowKit Go.Maps Go.WideMaps
set_option maxRecDepth 100000
def kn (D : DataW Unit) : Nat → Nat
 | 0 => 0
 | k + 1 => kn D k + if Maps.has D (.int .i64 (k : Int)) then 1 else 0
theorem kn_le (D : DataW Unit) (N : Nat) : kn D N ≤ N := by
 induction N with
 | zero => exact Nat.le_refl _
 | succ N ih => rw [kn]; split <;> omega
theorem kn_put {D : DataW Unit} (hm : IsMap D) {k : Nat} (hno : Maps.has D (.int .i64 (k : Int)) = false) (d : DataW Unit) (N : Nat) : kn (D.put (.int .i64 (k : Int)) d) N = kn D N + if k < N then 1 else 0 := by
 induction N with
 | zero => rfl
 | succ N ih =>
   rw [kn, kn, ih]
   by_cases e : N = k
   · subst e
     rw [has_put_same hm (k := .int .i64 (N : Int)) trivial, hno]
     simp
   · rw [has_put_other (by simp; omega)]
     by_cases h1 : k < N
     · rw [if_pos h1, if_pos (show k < N + 1 by omega)]; omega
     · rw [if_neg h1, if_neg (show ¬ k < N + 1 by omega)]; rfl
theorem kn_lt {D : DataW Unit} {k N : Nat} (hk : k < N) (hno : Maps.has D (.int .i64 (k : Int)) = false) : kn D N < N := by
 induction N with
 | zero => omega
 | succ N ih =>
   rw [kn]
   by_cases e : k = N
   · subst e
     rw [hno]
     have := kn_le D k
     simp; omega
   · have := ih (by omega)
     split <;> omega
def Tells (E : List Bool → List Int → Prop) (ns : List Nd) (ps : Gr) (k : Nat) (l : List Int) : Prop :=
 (l.length : Int) = wdOf ns k ∧ ∀ bs vs, E bs vs → ((numW ps bs l : Nat) : Int) = vs.getD k 0
structure EnvOk (E : List Bool → List Int → Prop) (ns : List Nd) (n : Nat) : Prop where
 len : ∀ bs vs, E bs vs → bs.length = n
 eqs : ∀ bs vs, E bs vs → ∀ k (hk : k < ns.length), ns[k].kind ≠ 2 → ns[k].kind ≠ 3 → vs.getD k 0 = if ns[k].kind = 1 then ns[k].n
   else madeE ns[k].kind ns[k].width (opv vs (takes ns[k].kind) 0 ns[k].a) (opv vs (takes ns[k].kind) 1 ns[k].b) (opv vs (takes ns[k].kind) 2 ns[k].c) ns[k].n (wds ns (takes ns[k].kind) 0 ns[k].a) (wds ns (takes ns[k].kind) 1 ns[k].b)
theorem Tells.ext {E : List Bool → List Int → Prop} {ns : List Nd} {n j k : Nat} {ps qs : Gr} {l : List Int} (h : Tells E ns ps k l) (he : EnvOk E ns n) (hx : Ext n j ps qs) (hv : Vals n ps l) : Tells E ns qs k l :=
 ⟨h.1, fun bs vs hb => by rw [hx.num (he.len bs vs hb) hv]; exact h.2 bs vs hb⟩
def Off (p : Option Addr) (Mb : Nat) : Prop := ∀ b off, p = some ⟨b, off, none⟩ → b ≠ Mb
structure Gom (base M B Mb : Nat) (w : World) (v : Value) (w' : World) (v' : Value) : Prop where
 bel : Below base w w'
 far : ∀ g, g < w.heap.size → Apart M B v g → g ≠ Mb → w'.heap[g]? = w.heap[g]? ∧ Apart M B v' g
theorem Gon.gom {base M B Mb : Nat} {w w1 : World} {v v1 : Value} (h : Gon base M B w v w1 v1) : Gom base M B Mb w v w1 v1 := ⟨h.bel, fun g hg ha _ => h.far g hg ha⟩
theorem Gom.refl {base M B Mb : Nat} {w : World} {v : Value} : Gom base M B Mb w v w v := ⟨Below.refl _ _, fun _ _ h _ => ⟨rfl, h⟩⟩
theorem Gom.trans {base M B Mb : Nat} {w w1 w2 : World} {v v1 v2 : Value} (h : Gom base M B Mb w v w1 v1) (k : Gom base M B Mb w1 v1 w2 v2) : Gom base M B Mb w v w2 v2 :=
 ⟨h.bel.trans k.bel, fun g hg ha hn => by
   obtain ⟨h1, h2⟩ := h.far g hg ha hn
   obtain ⟨k1, k2⟩ := k.far g (Nat.lt_of_lt_of_le hg h.bel.size) h2 hn
   exact ⟨k1.trans h1, k2⟩⟩
theorem Gom.cell {base M B Mb : Nat} {w w1 : World} {v v1 : Value} (h : Gom base M B Mb w v w1 v1) {q : Addr} {x : Value} (hq : w.cell? q = some x) (ha : Apart M B v q.block) (hn : q.block ≠ Mb) : w1.cell? q = some x := by
 rw [World.cell?_of_block (w := w) (h.far _ (World.block_lt_of_cell? _ _ hq) ha hn).1]
 exact hq
theorem LA.gom {base M B Mb : Nat} {w w1 : World} {v v1 : Value} {p : Option Addr} {l : List Int} (h : LA w M B v p l) (hg : Gom base M B Mb w v w1 v1) (ho : Off p Mb) : LA w1 M B v1 p l := by
 refine ⟨fun h0 => ?_, fun g off hp h0 => ?_⟩
 · obtain ⟨g, off, hp, hc⟩ := h.1 h0
   have ha := h.2 g off hp h0
   exact ⟨g, off, hp, fun i hi => hg.cell (hc i hi) ha (ho g off hp)⟩
 · obtain ⟨g', off', hp', hc⟩ := h.1 h0
   rw [hp] at hp'
   cases hp'
   exact (hg.far _ (World.block_lt_of_cell? _ _ (hc 0 h0)) (h.2 g off hp h0) (ho g off hp)).2
theorem Wm.gom {base M B Mb : Nat} {w w1 : World} {v v1 : Value} {n j : Nat} {ps qs : Gr} {p : Option Addr} {cap : Nat} {l : List Int} (h : Wm w M B v n ps p cap l) (hg : Gom base M B Mb w v w1 v1) (hx : Ext n j ps qs) (ho : Off p Mb) : Wm w1 M B v1 n qs p cap l :=
 ⟨h.la.gom hg ho, h.cap, hx.vals h.vals⟩
theorem wm_nil {w : World} {M B n : Nat} {v : Value} {ps : Gr} : Wm w M B v n ps none 0 [] :=
 ⟨⟨fun h => by simp at h, fun _ _ h => by cases h⟩, ⟨Nat.le_refl _, by unfold maxLen; omega⟩, fun x hx => absurd hx List.not_mem_nil⟩
def OffX (p : Option Addr) (X : Nat → Prop) : Prop := ∀ b off, p = some ⟨b, off, none⟩ → ¬ X b
theorem OffX.off {p : Option Addr} {X : Nat → Prop} {Mb : Nat} (h : OffX p X) (hx : X Mb) : Off p Mb := fun b off e eb => h b off e (by rw [eb]; exact hx)
theorem offX_nil {X : Nat → Prop} : OffX none X := fun _ _ h => by cases h
theorem offX_some {b o : Nat} {X : Nat → Prop} (h : ¬ X b) : OffX (some ⟨b, o, none⟩) X := fun _ _ e => by cases e; exact h
structure Kz (X : Nat → Prop) (E : List Bool → List Int → Prop) (ns : List Nd) (a0 : Option Addr) (c0 : Nat) (w : World) (base Pb M B Mb : Nat) (v : Value) (n : Nat) (ps : Gr) (D : DataW Unit) : Prop where
 bs : Bs w base Pb M B v n ps
 c1 : w.cell? ⟨Pb, 1, none⟩ = some (.slice a0 ns.length c0)
 c2 : w.cell? ⟨Pb, 2, none⟩ = some (.map (some Mb))
 own : w.ownsMap Tryz.prog 3 slR Mb (kn D ns.length) D
 hM : base ≤ Mb
 ap : Apart M B v Mb
 ne : Pb ≠ Mb
 nodes : NodesAt w a0 ns
 nb : 0 < ns.length → ∀ b off, a0 = some ⟨b, off, none⟩ → b < base
 known : ∀ k, k < ns.length → (Maps.has D (.int .i64 (k : Int)) = false ∧ D.atKey (.int .i64 (k : Int)) .nil = .nil) ∨ (Maps.has D (.int .i64 (k : Int)) = true ∧ ∃ b o c l, D.atKey (.int .i64 (k : Int)) .nil = slD b o l.length c ∧ Wm w M B v n ps (some ⟨b, o, none⟩) c l ∧ ¬ X b ∧ Tells E ns ps k l)
 xm : X Mb
 leaves : ∀ k (hk : k < ns.length), (ns[k].kind = 2 ∨ ns[k].kind = 3) → Maps.has D (.int .i64 (k : Int)) = true
theorem Kz.gon {X : Nat → Prop} {E : List Bool → List Int → Prop} {ns : List Nd} {a0 : Option Addr} {c0 : Nat} {w w1 : World} {base Pb M B Mb : Nat} {v v1 : Value} {n j : Nat} {ps qs : Gr} {D : DataW Unit} (h : Kz X E ns a0 c0 w base Pb M B Mb v n ps D) (he : EnvOk E ns n) (hg : Gon base M B w v w1 v1) (hb : Bs w1 base Pb M B v1 n qs) (hx : Ext n j ps qs) : Kz X E ns a0 c0 w1 base Pb M B Mb v1 n qs D := by
 have hl := h.own.lt
 refine ⟨hb, hg.cell h.c1 h.bs.ap, hg.cell h.c2 h.bs.ap, map_block h.own (hg.far Mb hl h.ap).1, h.hM, (hg.far Mb hl h.ap).2, h.ne, ?_, h.nb, fun k hk => ?_, h.xm, h.leaves⟩
 · intro h0
   obtain ⟨b, off, e, hc⟩ := h.nodes h0
   have hlt := h.nb h0 b off e
   refine ⟨b, off, e, fun i hi => ?_⟩
   obtain ⟨d0, d1, d2, d3, d4, d5⟩ := hc i hi
   have hw : w1.heap[b]? = w.heap[b]? := hg.bel.block b hlt
   exact ⟨cell_block d0 hw, cell_block d1 hw, cell_block d2 hw, cell_block d3 hw, cell_block d4 hw, cell_block d5 hw⟩
 · rcases h.known k hk with h1 | ⟨h1, b, o, c, l, h2, h3, h4, h5⟩
   · exact Or.inl h1
   · exact Or.inr ⟨h1, b, o, c, l, h2, h3.gom (Mb := Mb) hg.gom hx ((offX_some h4).off h.xm), h4, h5.ext he hx h3.vals⟩
theorem Kz.later {X : Nat → Prop} {E : List Bool → List Int → Prop} {ns : List Nd} {a0 : Option Addr} {c0 : Nat} {w w1 : World} {base Pb M B Mb : Nat} {v : Value} {n : Nat} {ps : Gr} {D : DataW Unit} (h : Kz X E ns a0 c0 w base Pb M B Mb v n ps D) (he : EnvOk E ns n) (hb : Below w.heap.size w w1) : Kz X E ns a0 c0 w1 base Pb M B Mb v n ps D :=
 h.gon he (gon_quiet (hb.mono h.bs.hb) hb) (h.bs.later hb) (Ext.refl h.bs.good)
theorem Kz.mbn {X : Nat → Prop} {E : List Bool → List Int → Prop} {ns : List Nd} {a0 : Option Addr} {c0 : Nat} {w : World} {base Pb M B Mb : Nat} {v : Value} {n : Nat} {ps : Gr} {D : DataW Unit} (h : Kz X E ns a0 c0 w base Pb M B Mb v n ps D) {q : Addr} {x : Value} (hq : w.cell? q = some x) : q.block ≠ Mb := fun e => by
 obtain ⟨es, clock, hh, _⟩ := h.own
 rw [← e] at hh
 unfold World.cell? at hq
 rw [hh] at hq
 simp at hq
theorem Kz.off {X : Nat → Prop} {E : List Bool → List Int → Prop} {ns : List Nd} {a0 : Option Addr} {c0 : Nat} {w : World} {base Pb M B Mb : Nat} {v : Value} {n : Nat} {ps : Gr} {D : DataW Unit} (h : Kz X E ns a0 c0 w base Pb M B Mb v n ps D) {p : Option Addr} {l : List Int} (hl : LA w M B v p l) (h0 : 0 < l.length) : Off p Mb := fun b off e => by
 obtain ⟨b', off', e', hc⟩ := hl.1 h0
 rw [e] at e'
 cases e'
 exact h.mbn (hc 0 h0)
theorem Kz.put {X : Nat → Prop} {E : List Bool → List Int → Prop} {ns : List Nd} {a0 : Option Addr} {c0 : Nat} {w w1 : World} {base Pb M B Mb : Nat} {v : Value} {n : Nat} {ps : Gr} {D : DataW Unit} (h : Kz X E ns a0 c0 w base Pb M B Mb v n ps D) {k : Nat} (hk : k < ns.length) (hno : Maps.has D (.int .i64 (k : Int)) = false) {b o c : Nat} {l : List Int} (hw : Wm w M B v n ps (some ⟨b, o, none⟩) c l) (h0 : 0 < l.length) (hb : ¬ X b) (ht : Tells E ns ps k l)
   (hown : w1.ownsMap Tryz.prog 3 slR Mb (kn D ns.length + 1) (D.put (.int .i64 (k : Int)) (slD b o l.length c))) (hg : w.grownBy w1 (some Mb)) : Kz X E ns a0 c0 w1 base Pb M B Mb v n ps (D.put (.int .i64 (k : Int)) (slD b o l.length c)) ∧ Gom base M B Mb w v w1 v := by
 have hm := h.own.isMap
 have hP : Pb ≠ Mb := h.ne
 have hgm : Gom base M B Mb w v w1 v := ⟨(Below.refl base w).grown hg (by have := h.bs.hb; omega) (fun j hj => by cases hj; exact h.hM), fun g hgl ha hn => ⟨hg.block g hgl (by simpa using hn), ha⟩⟩
 obtain ⟨D0, m1, m2⟩ := h.bs.bm.map
 have hM := h.bs.bm.mem
 have n1 : M ≠ Mb := fun e => h.ap.1 e.symm
 have n2 : B ≠ Mb := fun e => h.ap.2.1 e.symm
 have hbs : Bs w1 base Pb M B v n ps := ⟨⟨⟨hg.cell hM.c0 (by simpa using n1), hg.cell hM.c1 (by simpa using n1), hg.cell hM.c2 (by simpa using n1), (grown_frozen hg hM.c1 (by simpa using n1)).trans hM.f1, hM.row.kept hg (Or.inr h.ap.2.2), hM.hM, hM.hB, hM.ne, hM.nv, hM.nb⟩,
   ⟨D0, m1.kept hg (by simpa using n2), m2⟩, h.bs.bm.wf⟩, hg.cell h.bs.p0 (by simpa using hP), h.bs.ap, Nat.le_trans h.bs.hb hg.size, h.bs.good⟩
 have hob := h.off hw.la h0
 refine ⟨⟨hbs, hg.cell h.c1 (by simpa using hP), hg.cell h.c2 (by simpa using hP), ?_, h.hM, h.ap, hP, ?_, h.nb, fun q hq => ?_, h.xm, fun q hq hkd => ?_⟩, hgm⟩
 · rw [kn_put hm hno, if_pos hk]; exact hown
 · intro hn0
   obtain ⟨nb, off, e, hc⟩ := h.nodes hn0
   have hlt := h.nb hn0 nb off e
   refine ⟨nb, off, e, fun i hi => ?_⟩
   obtain ⟨d0, d1, d2, d3, d4, d5⟩ := hc i hi
   have hne : nb ≠ Mb := by have := h.hM; omega
   have hw1 : w1.heap[nb]? = w.heap[nb]? := hg.block nb (World.block_lt_of_cell? _ _ d0) (by simpa using hne)
   exact ⟨cell_block d0 hw1, cell_block d1 hw1, cell_block d2 hw1, cell_block d3 hw1, cell_block d4 hw1, cell_block d5 hw1⟩
 · by_cases e : q = k
   · subst e
     exact Or.inr ⟨has_put_same hm (k := .int .i64 (q : Int)) trivial _, b, o, c, l, atKey_put_same hm (k := .int .i64 (q : Int)) trivial _ _, hw.gom hgm (Ext.refl h.bs.good) hob, hb, ht⟩
   · rw [has_put_other (by simp; omega), atKey_put_other (by simp; omega)]
     rcases h.known q hq with h1 | ⟨h1, b, o, c, l, h2, h3, h4, h5⟩
     · exact Or.inl h1
     · exact Or.inr ⟨h1, b, o, c, l, h2, h3.gom hgm (Ext.refl h.bs.good) ((offX_some h4).off h.xm), h4, h5⟩
 · by_cases e : q = k
   · subst e
     exact has_put_same hm (k := .int .i64 (q : Int)) trivial _
   · rw [has_put_other (by simp; omega)]
     exact h.leaves q hq hkd
theorem Kz.reX {X Y : Nat → Prop} {E : List Bool → List Int → Prop} {ns : List Nd} {a0 : Option Addr} {c0 : Nat} {w : World} {base Pb M B Mb : Nat} {v : Value} {n : Nat} {ps : Gr} {D : DataW Unit} (h : Kz X E ns a0 c0 w base Pb M B Mb v n ps D) (hp : ∀ k l, k < ns.length → Tells E ns ps k l → 0 < l.length) (hY : ∀ g, Y g → X g ∨ w.heap.size ≤ g) (hm : Y Mb) : Kz Y E ns a0 c0 w base Pb M B Mb v n ps D :=
 ⟨h.bs, h.c1, h.c2, h.own, h.hM, h.ap, h.ne, h.nodes, h.nb, fun k hk => (h.known k hk).imp id fun ⟨h1, b, o, c, l, h2, h3, h4, h5⟩ => ⟨h1, b, o, c, l, h2, h3, fun hy => by
   rcases hY b hy with h6 | h6
   · exact h4 h6
   · obtain ⟨b', o', e, hc⟩ := h3.la.1 (hp k l hk h5)
     cases e
     have := World.block_lt_of_cell? _ _ (hc 0 (hp k l hk h5))
     simp only at this
     omega, h5⟩, hm, h.leaves⟩
theorem fitW_of {k v xn : Int} {a b c : Nat} (h : fitE k v xn a b c = 0) : fitW k v.toNat xn a b c := by
 obtain ⟨⟨v1, v2⟩, hr, hok, _, k1, k2⟩ := fit_zero h
 unfold rngOk at hr
 unfold okOf at hok
 unfold fitW
 by_cases e4 : k = 4 ∨ k = 5
 · rw [if_pos e4] at hok
   refine Or.inr (Or.inl ⟨e4, ?_⟩)
   simp at hok; omega
 rw [if_neg e4] at hok
 by_cases e6 : 6 ≤ k ∧ k ≤ 15
 · rw [if_pos e6] at hok
   refine Or.inr (Or.inr (Or.inl ⟨e6, ?_⟩))
   simp at hok; omega
 rw [if_neg e6] at hok
 by_cases e16 : 16 ≤ k ∧ k ≤ 18
 · rw [if_pos e16] at hok
   have ht : takes k = 2 := by unfold takes; (repeat' split) <;> omega
   rw [ht] at hr
   refine Or.inr (Or.inr (Or.inr (Or.inl ⟨e16, ?_⟩)))
   simp [Go.Proofs.YtabnimgpednhjabGreat.btw] at hok hr; omega
 rw [if_neg e16] at hok
 by_cases e19 : k = 19
 · rw [if_pos e19] at hok
   refine Or.inr (Or.inr (Or.inr (Or.inr (Or.inl ⟨e19, ?_⟩))))
   simp at hok; omega
 rw [if_neg e19] at hok
 by_cases e20 : k = 20
 · rw [if_pos e20] at hok
   have ht : takes k = 2 := by unfold takes; (repeat' split) <;> omega
   rw [ht] at hr
   refine Or.inr (Or.inr (Or.inr (Or.inr (Or.inr (Or.inl ⟨e20, ?_⟩)))))
   simp [Go.Proofs.YtabnimgpednhjabGreat.btw] at hok hr; omega
 rw [if_neg e20] at hok
 have ht : takes k = 1 := by unfold takes; (repeat' split) <;> omega
 rw [ht] at hr
 by_cases e21 : k = 21
 · rw [if_pos e21] at hok
   refine Or.inr (Or.inr (Or.inr (Or.inr (Or.inr (Or.inr (Or.inl ⟨e21, ?_⟩))))))
   simp [Go.Proofs.YtabnimgpednhjabGreat.btw] at hok hr; omega
 · rw [if_neg e21] at hok
   refine Or.inr (Or.inr (Or.inr (Or.inr (Or.inr (Or.inr (Or.inr ⟨by omega, ?_⟩))))))
   simp [Go.Proofs.YtabnimgpednhjabGreat.btw] at hok hr; omega
end Go.Proofs.YtabnimgpednhjabGreat.Gg

namespace Go.Proofs.YtabnimgpednhjabGreat.Gg
open Go.RowKit Go.Maps Go.WideMaps
set_option maxRecDepth 100000
def SlA (w : World) (A : Nat) : Prop := ∀ i u, w.cell? ⟨A, i, none⟩ = some u → ∃ p n c, u = .slice p n c
theorem SlA.ne {w : World} {A : Nat} (h : SlA w A) {q : Addr} {k : IntKind} {x : Int} (hq : w.cell? q = some (.int k x)) (hs : q.spot = none) : q.block ≠ A := fun e => by
 obtain ⟨b, o, s⟩ := q
 simp only at e hs
 subst e hs
 obtain ⟨_, _, _, h2⟩ := h _ _ hq
 cases h2
theorem SlA.set {w : World} {A j : Nat} (h : SlA w A) {x : Value} (hc : w.cell? ⟨A, j, none⟩ = some x) {p : Option Addr} {n c : Nat} : SlA (w.setCell ⟨A, j, none⟩ (.slice p n c)) A := fun i u hu => by
 by_cases e : j = i
 · subst e
   rw [World.cell?_setCell_same w _ _ hc] at hu
   cases hu
   exact ⟨_, _, _, rfl⟩
 · rw [World.cell?_setCell_other w _ _ _ (show (⟨A, j, none⟩ : Addr) ≠ ⟨A, i, none⟩ from fun h => by injection h with _ h2 _; omega)] at hu
   exact h i u hu
theorem SlA.kept {w w1 : World} {A : Nat} (h : SlA w A) (hb : w1.heap[A]? = w.heap[A]?) : SlA w1 A := fun i u hu => h i u (by rw [← hu]; exact (World.cell?_of_block (w := w) (a := ⟨A, i, none⟩) hb).symm)
theorem sla_new (w : World) (t : TypeId) : SlA (w.alloc (.cells #[.slice none 0 0, .slice none 0 0, .slice none 0 0] t)) w.heap.size := fun i u hu => by
 match i with
 | 0 => simp [go_sem] at hu; subst hu; exact ⟨_, _, _, rfl⟩
 | 1 => simp [go_sem] at hu; subst hu; exact ⟨_, _, _, rfl⟩
 | 2 => simp [go_sem] at hu; subst hu; exact ⟨_, _, _, rfl⟩
 | i + 3 => simp [go_sem] at hu
theorem Tells.pos {E : List Bool → List Int → Prop} {ns : List Nd} {ps : Gr} {k : Nat} {l : List Int} (h : Tells E ns ps k l) (hn : firstN (nodeAtE ns) ns.length = 0) (hk : k < ns.length) : 0 < l.length ∧ l.length ≤ 8 := by
 have h1 := firstN_zero.1 hn k hk
 rw [nodeAtE_at hk] at h1
 obtain ⟨hw, _⟩ := node_zero h1
 have e : wdOf ns k = ns[k].width := by unfold wdOf; rw [Int.toNat_natCast, List.getElem?_eq_getElem hk]
 have := h.1
 rw [e] at this
 omega
theorem Kz.set {X : Nat → Prop} {E : List Bool → List Int → Prop} {ns : List Nd} {a0 : Option Addr} {c0 : Nat} {w : World} {base Pb M B Mb : Nat} {v : Value} {n : Nat} {ps : Gr} {D : DataW Unit} (h : Kz X E ns a0 c0 w base Pb M B Mb v n ps D) (hn : firstN (nodeAtE ns) ns.length = 0) {A j : Nat} (hA : SlA w A) (hb : base ≤ A) (ha : Apart M B v A) {old : Value} (hold : w.cell? ⟨A, j, none⟩ = some old) (u : Value) : Kz X E ns a0 c0 (w.setCell ⟨A, j, none⟩ u) base Pb M B Mb v n ps D := by
 have hP : A ≠ Pb := fun e => by
   subst e
   obtain ⟨_, _, _, e2⟩ := hA _ _ h.bs.p0
   cases e2
 have hMb : A ≠ Mb := h.mbn hold
 refine ⟨h.bs.set ha hP, cell_set_far h.c1 (fun e => hP e.symm), cell_set_far h.c2 (fun e => hP e.symm), h.own.setCell (fun e => hMb e.symm) _, h.hM, h.ap, h.ne, ?_, h.nb, fun k hk => ?_, h.xm, h.leaves⟩
 · intro h0
   obtain ⟨b, off, e, hc⟩ := h.nodes h0
   have hlt := h.nb h0 b off e
   refine ⟨b, off, e, fun i hi => ?_⟩
   obtain ⟨d0, d1, d2, d3, d4, d5⟩ := hc i hi
   have hw : (w.setCell ⟨A, j, none⟩ u).heap[b]? = w.heap[b]? := Below.heap_setCell _ _ _ _ (by simp only; omega)
   exact ⟨cell_block d0 hw, cell_block d1 hw, cell_block d2 hw, cell_block d3 hw, cell_block d4 hw, cell_block d5 hw⟩
 · rcases h.known k hk with h1 | ⟨h1, b, o, c, l, h2, h3, h4, h5⟩
   · exact Or.inl h1
   · have h0 := (h5.pos hn hk).1
     obtain ⟨b', o', e, hc⟩ := h3.la.1 h0
     cases e
     have hbA : b ≠ A := hA.ne (hc 0 h0) rfl
     refine Or.inr ⟨h1, b, o, c, l, h2, ⟨⟨fun _ => ⟨b, o, rfl, fun i hi => cell_set_far (hc i hi) hbA⟩, h3.la.2⟩, h3.cap, h3.vals⟩, h4, h5⟩
theorem gom_setNew {base M B Mb : Nat} {w w1 : World} {v v1 : Value} (h : Gom base M B Mb w v w1 v1) (hb : base ≤ w.heap.size) {q : Addr} (hq : w.heap.size ≤ q.block) {x : Value} : Gom base M B Mb w v (w1.setCell q x) v1 :=
 ⟨h.bel.setCell (Nat.le_trans hb hq) x, fun g hg ha hn => ⟨by rw [Below.heap_setCell _ _ _ _ (by omega)]; exact (h.far g hg ha hn).1, (h.far g hg ha hn).2⟩⟩
abbrev Ow := Nat → Option Addr × Nat × List Int
structure Wz (w wr : World) (M B Mb : Nat) (v' : Value) (x : Nd) (g : Nat) (f : Ow) : Prop where
 b0 : wr.cell? ⟨w.heap.size, 0, none⟩ = some (.int .i64 x.kind)
 b1 : wr.cell? ⟨w.heap.size, 1, none⟩ = some (.int .i64 x.width)
 b2 : wr.cell? ⟨w.heap.size, 2, none⟩ = some (.int .i64 x.a)
 b3 : wr.cell? ⟨w.heap.size, 3, none⟩ = some (.int .i64 x.b)
 b4 : wr.cell? ⟨w.heap.size, 4, none⟩ = some (.int .i64 x.c)
 b5 : wr.cell? ⟨w.heap.size, 5, none⟩ = some (.int .i64 x.n)
 r : ∀ i, i < 3 → wr.cell? ⟨w.heap.size + 1, i, none⟩ = some (.slice (f i).1 (f i).2.2.length (f i).2.1) ∧ wr.frozen? ⟨w.heap.size + 1, i, none⟩ = false
 sl : SlA wr (w.heap.size + 1)
 ops : IntsAt wr (some ⟨g, 0, none⟩) (opsL x)
 a0 : Apart M B v' w.heap.size
 a1 : Apart M B v' (w.heap.size + 1)
 og : 0 < (opsL x).length → Apart M B v' g ∧ g < wr.heap.size
 hg : w.heap.size + 1 < g
 mb : Mb < w.heap.size
theorem Wz.gom {w wr w2 : World} {base M B Mb : Nat} {v' v2 : Value} {x : Nd} {g : Nat} {f : Ow} (h : Wz w wr M B Mb v' x g f) (hg : Gom base M B Mb wr v' w2 v2) : Wz w w2 M B Mb v2 x g f := by
 have hm := h.mb
 have hl0 := World.block_lt_of_cell? _ _ h.b0
 have hl1 := World.block_lt_of_cell? _ _ (h.r 0 (by omega)).1
 have e1 := hg.far _ hl1 h.a1 (by simp only; omega)
 have hgg := h.hg
 refine ⟨hg.cell h.b0 h.a0 (by simp only; omega), hg.cell h.b1 h.a0 (by simp only; omega), hg.cell h.b2 h.a0 (by simp only; omega), hg.cell h.b3 h.a0 (by simp only; omega), hg.cell h.b4 h.a0 (by simp only; omega), hg.cell h.b5 h.a0 (by simp only; omega),
   fun i hi => ⟨cell_block (h.r i hi).1 e1.1, by rw [World.frozen?_of_block (w := wr) (a := ⟨w.heap.size + 1, i, none⟩) e1.1]; exact (h.r i hi).2⟩, h.sl.kept e1.1, ?_, (hg.far _ hl0 h.a0 (by simp only; omega)).2, e1.2, fun h0 => ⟨(hg.far _ (h.og h0).2 (h.og h0).1 (by omega)).2, Nat.lt_of_lt_of_le (h.og h0).2 hg.bel.size⟩, h.hg, hm⟩
 intro h0
 have e2 := hg.far _ (h.og h0).2 (h.og h0).1 (by omega)
 obtain ⟨b, o, e, hc⟩ := h.ops h0
 cases e
 exact ⟨g, 0, rfl, fun i hi => cell_block (hc i hi) e2.1⟩
def Ow.put (f : Ow) (j : Nat) (t : Option Addr × Nat × List Int) : Ow := fun i => if i = j then t else f i
theorem Wz.put {w wr : World} {M B Mb : Nat} {v' : Value} {x : Nd} {g : Nat} {f : Ow} (h : Wz w wr M B Mb v' x g f) {j : Nat} (hj : j < 3) (p : Option Addr) (cap : Nat) (l : List Int) : Wz w (wr.setCell ⟨w.heap.size + 1, j, none⟩ (.slice p l.length cap)) M B Mb v' x g (f.put j (p, cap, l)) := by
 have hgg := h.hg
 refine ⟨cell_set_far h.b0 (by simp), cell_set_far h.b1 (by simp), cell_set_far h.b2 (by simp), cell_set_far h.b3 (by simp), cell_set_far h.b4 (by simp), cell_set_far h.b5 (by simp), fun i hi => ⟨?_, by rw [World.frozen?_setCell]; exact (h.r i hi).2⟩, h.sl.set (h.r j hj).1, ?_, h.a0, h.a1, fun h0 => ⟨(h.og h0).1, by simpa using (h.og h0).2⟩, h.hg, h.mb⟩
 · unfold Ow.put
   by_cases e : i = j
   · subst e
     rw [if_pos rfl]
     exact World.cell?_setCell_same wr _ _ (h.r i hi).1
   · rw [if_neg e, World.cell?_setCell_other wr _ _ _ (show (⟨w.heap.size + 1, j, none⟩ : Addr) ≠ ⟨w.heap.size + 1, i, none⟩ from fun h => by injection h with _ h2 _; omega)]
     exact (h.r i hi).1
 · intro h0
   obtain ⟨b, o, e, hc⟩ := h.ops h0
   cases e
   exact ⟨g, 0, rfl, fun i hi => cell_set_far (hc i hi) (by simp only; omega)⟩
def WordP (X : Nat → Prop) (E : List Bool → List Int → Prop) (ns : List Nd) (a0 : Option Addr) (c0 : Nat) (w : World) (base Pb M B Mb : Nat) (v : Value) (n : Nat) (ps : Gr) (D0 : DataW Unit) (k : Nat) (e : Ending) (w' : World) : Prop :=
 ∃ v' qs D b o cap l, e = .returned (.slice (some ⟨b, o, none⟩) l.length cap) ∧ Kz X E ns a0 c0 w' base Pb M B Mb v' n qs D ∧ qs.length ≤ 1000 * kn D ns.length ∧ Wm w' M B v' n qs (some ⟨b, o, none⟩) cap l ∧ ¬ X b ∧ Tells E ns qs k l ∧ (∃ j, Ext n j ps qs) ∧ Gom base M B Mb w v w' v' ∧ ∀ q : Nat, k < q → Maps.has D (.int .i64 (q : Int)) = Maps.has D0 (.int .i64 (q : Int))
theorem Wm.setA {w : World} {M B A j : Nat} {v : Value} {n : Nat} {ps : Gr} {p : Option Addr} {cap : Nat} {l : List Int} (h : Wm w M B v n ps p cap l) (hA : SlA w A) (u : Value) : Wm (w.setCell ⟨A, j, none⟩ u) M B v n ps p cap l :=
 ⟨⟨fun h0 => by
   obtain ⟨b, o, e, hc⟩ := h.la.1 h0
   exact ⟨b, o, e, fun i hi => cell_set_far (hc i hi) (hA.ne (hc i hi) rfl)⟩, h.la.2⟩, h.cap, h.vals⟩
end Go.Proofs.YtabnimgpednhjabGreat.Gg

namespace Go.Proofs.YtabnimgpednhjabGreat.Gg
open Go.RowKit Go.Maps Go.WideMaps
set_option maxRecDepth 100000
theorem opE_fit' {ns : List Nd} {i : Nat} {x : Nd} (h : opE ns i x = 0) : fitE x.kind x.width x.n (wds ns (takes x.kind) 0 x.a) (wds ns (takes x.kind) 1 x.b) (wds ns (takes x.kind) 2 x.c) = 0 := by
 unfold opE at h
 split at h
 · omega
 · exact h
theorem numW_nil {ps : Gr} {bs : List Bool} : numW ps bs [] = 0 := rfl
theorem op_facts {E : List Bool → List Int → Prop} {ns : List Nd} {qs : Gr} {t i xi : Int} {l : List Int} (h0 : i < t → 0 ≤ xi ∧ Tells E ns qs xi.toNat l) (h1 : ¬ i < t → l = []) :
   (l.length : Int) = wds ns t i xi ∧ ∀ bs vs, E bs vs → ((numW qs bs l : Nat) : Int) = opv vs t i xi := by
 unfold wds opv
 by_cases h : i < t
 · obtain ⟨hx, ht⟩ := h0 h
   rw [if_pos h]
   refine ⟨?_, fun bs vs hb => ?_⟩
   · rw [ht.1]
     unfold wdOf
     rw [Int.toNat_natCast]
   · rw [if_pos h]; exact ht.2 bs vs hb
 · rw [if_neg h, h1 h]
   exact ⟨rfl, fun bs vs _ => by rw [if_neg h, numW_nil]; rfl⟩
theorem node_tells {E : List Bool → List Int → Prop} {ns : List Nd} {n : Nat} (he : EnvOk E ns n) (hn : firstN (nodeAtE ns) ns.length = 0) {k : Nat} (hk : k < ns.length) (k2 : ns[k].kind ≠ 2) (k3 : ns[k].kind ≠ 3) {qs : Gr} (hg : chkE n qs = 0) (hl : qs.length + 1200 < 1000000) {xs ys zs : List Int}
   (v0 : Vals n qs xs) (v1 : Vals n qs ys) (v2 : Vals n qs zs)
   (f0 : 0 < takes ns[k].kind → 0 ≤ ns[k].a ∧ Tells E ns qs ns[k].a.toNat xs) (f1 : 1 < takes ns[k].kind → 0 ≤ ns[k].b ∧ Tells E ns qs ns[k].b.toNat ys) (f2 : 2 < takes ns[k].kind → 0 ≤ ns[k].c ∧ Tells E ns qs ns[k].c.toNat zs)
   (g0 : ¬ 0 < takes ns[k].kind → xs = []) (g1 : ¬ 1 < takes ns[k].kind → ys = []) (g2 : ¬ 2 < takes ns[k].kind → zs = []) :
   (1 ≤ ns[k].width.toNat ∧ ns[k].width.toNat ≤ 8) ∧ fitW ns[k].kind ns[k].width.toNat ns[k].n xs.length ys.length zs.length ∧
     Ext n 1000 qs (operR n ns[k].kind ns[k].width.toNat ns[k].n xs ys zs qs).2 ∧ Vals n (operR n ns[k].kind ns[k].width.toNat ns[k].n xs ys zs qs).2 (operR n ns[k].kind ns[k].width.toNat ns[k].n xs ys zs qs).1 ∧
     (operR n ns[k].kind ns[k].width.toNat ns[k].n xs ys zs qs).1.length = ns[k].width.toNat ∧ Tells E ns (operR n ns[k].kind ns[k].width.toNat ns[k].n xs ys zs qs).2 k (operR n ns[k].kind ns[k].width.toNat ns[k].n xs ys zs qs).1 := by
 have hnode := firstN_zero.1 hn k hk
 rw [nodeAtE_at hk] at hnode
 obtain ⟨⟨w1, w2⟩, ⟨q1, q2⟩, _, h4, hlf⟩ := node_zero hnode
 have hwd : wdOf ns k = ns[k].width := by unfold wdOf; rw [Int.toNat_natCast, List.getElem?_eq_getElem hk]
 obtain ⟨l0, m0⟩ := op_facts f0 g0
 obtain ⟨l1, m1⟩ := op_facts f1 g1
 obtain ⟨l2, m2⟩ := op_facts f2 g2
 have heq := fun bs vs hb => he.eqs bs vs hb k hk k2 k3
 have hfit : fitW ns[k].kind ns[k].width.toNat ns[k].n xs.length ys.length zs.length := by
   by_cases k1 : ns[k].kind = 1
   · have hlf' := hlf (by omega)
     unfold leafE at hlf'
     by_cases hW : isW ns[k].n ns[k].width = true
     · obtain ⟨i1, i2⟩ := isW_iff.1 hW
       refine Or.inl ⟨k1, i1, ?_⟩
       unfold two at i2
       exact i2
     · rw [if_pos ⟨k1, (Bool.not_eq_true _).mp hW⟩] at hlf'
       omega
   · have hop := opE_fit' (h4 (by omega))
     rw [← l0, ← l1, ← l2] at hop
     exact fitW_of hop
 generalize ns[k] = x at *
 have hD := oper_does hg (wd := x.width.toNat) (by omega) hl hfit v0 v1 v2
 refine ⟨by omega, hfit, hD.ext, hD.vals, hD.len, ?_, fun bs vs hb => ?_⟩
 · rw [hD.len, hwd]; omega
 · rw [hD.num bs (he.len bs vs hb), heq bs vs hb]
   unfold nodeN
   rw [m0 bs vs hb, m1 bs vs hb, m2 bs vs hb, l0, l1, show ((x.width.toNat : Nat) : Int) = x.width by omega]
end Go.Proofs.YtabnimgpednhjabGreat.Gg
