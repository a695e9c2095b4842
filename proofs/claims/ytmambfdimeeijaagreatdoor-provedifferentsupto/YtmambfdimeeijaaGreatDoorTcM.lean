/- Gates: what a graph is that comes in; lists of numbers, and of bools. -/
import Derived.Test.YtmambfdimeeijaaGreatDoorRows
import Derived.Test.YtmambfdimeeijaaGreatDoorKqM
import Derived.ProofKit
import Derived.SizedLaws
import Derived.OpenShut
import Derived.ChangeOld
import Derived.Below
import Derived.Deep.Slices
import Derived.Test.YtmambfdimeeijaaGreatDoorBaM
import Derived.Test.YtmambfdimeeijaaGreatDoorKiM
import Derived.Deep.RegionLaw
import Derived.Deep.AppendLies
namespace Go.Proofs.YtmambfdimeeijaaGreatDoor
open Go.ChangeShapes Go.WideShapes Go.ChangeAt Go.RowKit Go.Deep
set_option maxRecDepth 100000
theorem own : ownKnob Tryz.prog.godebug = none := by kernel_rfl
theorem laidOut : laidOutB Tryz.prog = true := by kernel_rfl
theorem cells3 : Tryz.prog.cellsOf 3 = 1 := by kernel_rfl
theorem cells22 : Tryz.prog.cellsOf 22 = 1 := by kernel_rfl
theorem cells24 : Tryz.prog.cellsOf 24 = 2 := by kernel_rfl
theorem cells55 : Tryz.prog.cellsOf 71 = 2 := by kernel_rfl
theorem bytes3 : Tryz.prog.bytesOf 3 = 8 := by kernel_rfl
theorem bytes55 : Tryz.prog.bytesOf 71 = 16 := by kernel_rfl
theorem wf_of {n : Int} (h : (Lit.int .i64 n).wf = true) : Wf n := by
 unfold Lit.wf at h
 simp only [Bool.and_eq_true, decide_eq_true_eq] at h
 exact ⟨h.1, h.2⟩
section
variable {H : Type} {enc : TypeId × Value → H} {W : World} {base : Nat} {sp : Nat → Bool} {held : Bool} {fuel : Nat} {v : Value} {x : DataW H × List MemPlace}
theorem weigh {t e : TypeId} {es ss : List (DataW H)} (hu : Tryz.prog.underlying t = some (.slice e)) (h : ((DataW.slice es ss).weights Tryz.prog t).all (· ≤ reachBytes) = true) : es.length * Tryz.prog.bytesOf e ≤ reachBytes := by
 have h1 := List.all_eq_true.1 h ((es.length + ss.length) * Tryz.prog.bytesOf e) (by simp [DataW.weights, hu])
 have h2 : (es.length + ss.length) * Tryz.prog.bytesOf e ≤ reachBytes := by simpa using h1
 exact Nat.le_trans (Nat.mul_le_mul_right _ (Nat.le_add_right _ _)) h2
theorem in_ints (h : DataW.trod enc Tryz.prog W base sp held fuel 25 [v] = some x) :
   ∃ p c l, v = .slice p (List.length l) c ∧ IntsAt W p l ∧ ((x.1.weights Tryz.prog 25).all (· ≤ reachBytes) = true → l.length ≤ 17592186043904) := by
 rcases open_ints Tryz.underlying25 Tryz.underlying3 cells3 h with ⟨hcs, hx⟩ | ⟨a, len, cap, zs, hcs, _, hl, hm, hz, hx, hcell, _⟩
 · simp at hcs
   exact ⟨none, 0, [], hcs, fun h => by simp at h, fun _ => by simp⟩
 · simp at hcs
   have hlz : len ≤ zs.length := by rw [hz]; split <;> omega
   refine ⟨some a, cap, zs.take len, by rw [hcs, List.length_take, Nat.min_eq_left hlz], ?_, ?_⟩
   · intro h0
     rw [List.length_take, Nat.min_eq_left hlz] at h0
     obtain ⟨b, off, spot⟩ := a
     have hspot : spot = none := by simpa [Addr.add] using World.cell?_spot (hcell 0 (by omega))
     subst hspot
     refine ⟨b, off, rfl, fun i hi => ?_⟩
     have hi' : i < zs.length := by rw [List.length_take] at hi; omega
     have := hcell i hi'
     rw [Addr.add_lit] at this
     rw [this]
     simp [List.getD, List.getElem?_eq_getElem hi']
   · intro hw
     subst hx
     have := weigh Tryz.underlying25 hw
     rw [bytes3] at this
     simp only [lits, List.length_map, reachBytes] at this
     omega
theorem in_pairs (h : DataW.trod enc Tryz.prog W base sp held fuel 22 [v] = some x) :
   ∃ p c l, v = .slice p (List.length l) c ∧ (p = none → c = 0) ∧ PairsAt W p l ∧ WfP l ∧ ((x.1.weights Tryz.prog 22).all (· ≤ reachBytes) = true → l.length ≤ 8796093021952) := by
 rcases open_slice Tryz.underlying22 h with ⟨hcs, hx⟩ | ⟨a, len, cap, m, n, D, Pl, hcs, _, hl, hm, hmm, hx, hcell⟩
 · simp at hcs
   exact ⟨none, 0, [], hcs, fun _ => rfl, fun h => by simp at h, fun i h => by simp at h, fun _ => by simp⟩
 · simp at hcs
   have hlm : len ≤ m := by rw [hmm]; split <;> omega
   have key : ∀ i, i < len → ∃ q : Int × Int, W.cell? (a.add (i * 2 + 0)) = some (.int .i64 q.1) ∧ W.cell? (a.add (i * 2 + 1)) = some (.int .i64 q.2) ∧ Wf q.1 ∧ Wf q.2 := by
     intro i hi
     obtain ⟨cs, hc, ht⟩ := hcell i (by omega)
     rw [cells55] at hc
     obtain ⟨_, hlen, hat⟩ := World.cells?_some hc
     obtain ⟨y, q, _, _, _, hl2, hx2⟩ := DataW.trod_array Tryz.underlying71 ht
     match cs, hlen with
     | [w0, w1], _ =>
       have e0 := hx2 0 (by omega)
       have e1 := hx2 1 (by omega)
       rw [List.getElem?_eq_getElem (by omega)] at e0 e1
       obtain ⟨n0, h0, _, f0⟩ := DataW.trod_int Tryz.underlying3 e0
       obtain ⟨n1, h1, _, f1⟩ := DataW.trod_int Tryz.underlying3 e1
       simp [cells3] at h0 h1
       subst h0 h1
       have g : ∀ j, (a.add (i * 2)).add j = a.add (i * 2 + j) := fun j => Go.Deep.add_add _ _ _
       refine ⟨(n0, n1), ?_, ?_, wf_of f0, wf_of f1⟩
       · have := hat 0 (by omega); rw [g] at this; exact this
       · have := hat 1 (by omega); rw [g] at this; exact this
   obtain ⟨F, hF⟩ := choose_lt key
   have hlen : ((List.range len).map F).length = len := by simp
   refine ⟨some a, cap, (List.range len).map F, by rw [hcs, hlen], (fun h => by cases h), ?_, ?_, ?_⟩
   · intro h0
     rw [hlen] at h0
     obtain ⟨b, off, spot⟩ := a
     have hspot : spot = none := by simpa [Addr.add] using World.cell?_spot (hF 0 (by omega)).1
     subst hspot
     refine ⟨b, off, rfl, fun i hi => ?_⟩
     have hi' : i < len := by rw [hlen] at hi; exact hi
     obtain ⟨e0, e1, _⟩ := hF i hi'
     rw [Addr.add_lit] at e0 e1
     rw [List.getElem_map, List.getElem_range]
     exact ⟨e0, by rw [Nat.add_assoc]; exact e1⟩
   · intro i hi
     have hi' : i < len := by rw [hlen] at hi; exact hi
     rw [List.getElem_map, List.getElem_range]
     exact (hF i hi').2.2
   · intro hw
     subst hx
     have := weigh Tryz.underlying22 hw
     rw [bytes55] at this
     simp only [List.length_map, List.length_range, reachBytes] at this
     rw [hlen]
     omega
end
end Go.Proofs.YtmambfdimeeijaaGreatDoor

namespace Go.Proofs.YtmambfdimeeijaaGreatDoor
open Go.ChangeShapes Go.WideShapes Go.ChangeAt Go.RowKit Go.Deep
set_option maxRecDepth 100000
theorem cells25 : Tryz.prog.cellsOf 25 = 1 := by kernel_rfl
theorem cells27 : Tryz.prog.cellsOf 27 = 8 := by kernel_rfl
theorem eight_cells {α : Type} {cs : Array α} (h : cs.size = 8) : ∃ c0 c1 c2 c3 c4 c5 c6 c7, cs = #[c0, c1, c2, c3, c4, c5, c6, c7] := by
 obtain ⟨l⟩ := cs
 match l, h with
 | [a, b, c, d, e, f, g, i], _ => exact ⟨a, b, c, d, e, f, g, i, rfl⟩
theorem bulk_pos {H : Type} (d : DataW H) : 1 ≤ Rows.uptoBulk d := by
 cases d with
 | lit l => cases l <;> simp [Rows.uptoBulk]
 | _ => simp [Rows.uptoBulk]
theorem bulk_len {H : Type} (es : List (DataW H)) : es.length ≤ Rows.uptoBulkAll es := by
 induction es with
 | nil => simp
 | cons d r ih =>
   have := bulk_pos d
   simp only [Rows.uptoBulkAll, List.length_cons]
   omega
theorem bulk_slice {H : Type} (es ss : List (DataW H)) : es.length ≤ Rows.uptoBulk (.slice es ss) := by
 have := bulk_len es
 simp only [Rows.uptoBulk]
 omega
theorem in_ints_bulk {H : Type} {enc : TypeId × Value → H} {W : World} {base : Nat} {sp : Nat → Bool} {held : Bool} {fuel : Nat} {v : Value} {x : DataW H × List MemPlace} (h : DataW.trod enc Tryz.prog W base sp held fuel 25 [v] = some x)
   {p : Option Addr} {n c : Nat} (hv : v = .slice p n c) : n ≤ Rows.uptoBulk x.1 := by
 rcases open_ints Tryz.underlying25 Tryz.underlying3 cells3 h with ⟨hcs, hx⟩ | ⟨a, len, cap, zs, hcs, _, hl, hm, hz, hx, hcell, _⟩
 · simp at hcs
   rw [hcs] at hv
   cases hv
   exact Nat.zero_le _
 · simp at hcs
   rw [hcs] at hv
   cases hv
   have hlz : n ≤ zs.length := by rw [hz]; split <;> omega
   subst hx
   refine Nat.le_trans ?_ (bulk_slice _ _)
   simp only [lits, List.length_map, List.length_take]
   omega
set_option maxRecDepth 100000 in
theorem in_circuit {H : Type} {enc : TypeId × Value → H} {W : World} {r : Reach} {b0 base : Nat} {sp : Nat → Bool} {held : Bool} {v : Value} {d : DataW H} {p : List MemPlace}
   (hv : Value.okWide Tryz.prog W r b0 27 v) (h : DataW.Trod enc Tryz.prog W base sp held 27 v d p) :
   ∃ (ins : Int) (q : Option Addr) (c : Nat) (ps : List (Int × Int)) (a s : Int) (i n b g : Sl), v = circ ins q (List.length ps) c a s i n b g ∧ CirAt W q ps i n b g ∧ WfP ps ∧ Wf a ∧ Wf s ∧
     ((d.weights Tryz.prog 27).all (· ≤ reachBytes) = true → ps.length ≤ 8796093021952 ∧ i.ns.length ≤ 17592186043904 ∧ n.ns.length ≤ 17592186043904 ∧ b.ns.length ≤ 17592186043904 ∧ g.ns.length ≤ 17592186043904) ∧ b.ns.length ≤ Rows.uptoBulk d ∧ g.ns.length ≤ Rows.uptoBulk d := by
 obtain ⟨cs, rfl, hsz⟩ := okWide_struct Tryz.underlying27 hv
 obtain ⟨v0, v1, v2, v3, v4, v5, v6, v7, rfl⟩ := eight_cells (hsz.trans cells27)
 obtain ⟨fuel, hf⟩ := h
 simp only [Value.cells] at hf
 obtain ⟨y, m, _, hxy, _, hl, hx⟩ := DataW.trod_struct Tryz.underlying27 hf
 have hl2 : y.length = 7 := hl
 match y, hl2 with
 | [y0, y1, y2, y3, y4, y5, y6], _ =>
   have e0 := hx 0 _ rfl
   have e1 := hx 1 _ rfl
   have e2 := hx 2 _ rfl
   have e3 := hx 3 _ rfl
   have e4 := hx 4 _ rfl
   have e5 := hx 5 _ rfl
   have e6 := hx 6 _ rfl
   simp [cells24, cells3, cells25] at e0 e1 e2 e3 e4 e5 e6
   obtain ⟨z, m2, _, hzy, _, hl', hx'⟩ := DataW.trod_struct Tryz.underlying24 e0
   have hl3 : z.length = 2 := hl'
   match z, hl3 with
   | [z0, z1], _ =>
     have g0 := hx' 0 _ rfl
     have g1 := hx' 1 _ rfl
     simp [cells3] at g0
     simp [cells22] at g1
     obtain ⟨n0, k0, _⟩ := DataW.trod_int Tryz.underlying3 g0
     obtain ⟨n1, k1, _, f1⟩ := DataW.trod_int Tryz.underlying3 e1
     obtain ⟨n2, k2, _, f2⟩ := DataW.trod_int Tryz.underlying3 e2
     simp at k0 k1 k2
     subst k0 k1 k2
     obtain ⟨a1, c1, ps, rfl, _, H1, F1, L1⟩ := in_pairs g1
     obtain ⟨a3, c3, l3, rfl, H3, L3⟩ := in_ints e3
     obtain ⟨a4, c4, l4, rfl, H4, L4⟩ := in_ints e4
     obtain ⟨a5, c5, l5, h5, H5, L5⟩ := in_ints e5
     have K5 := in_ints_bulk e5 h5
     subst h5
     obtain ⟨a6, c6, l6, h6, H6, L6⟩ := in_ints e6
     have K6 := in_ints_bulk e6 h6
     subst h6
     have hd : d = .agg [y0.1, y1.1, y2.1, y3.1, y4.1, y5.1, y6.1] := by simpa using congrArg Prod.fst hxy
     have hz : y0.1 = .agg [z0.1, z1.1] := by simpa using congrArg Prod.fst hzy
     refine ⟨n0, a1, c1, ps, n1, n2, ⟨a3, l3, c3⟩, ⟨a4, l4, c4⟩, ⟨a5, l5, c5⟩, ⟨a6, l6, c6⟩, rfl, ⟨H1, H3, H4, H5, H6⟩, F1, wf_of f1, wf_of f2, fun hs => ?_, ?_, ?_⟩
     rotate_left
     · rw [hd]; simp only [Rows.uptoBulk, Rows.uptoBulkAll]; omega
     · rw [hd]; simp only [Rows.uptoBulk, Rows.uptoBulkAll]; omega
     rw [hd, hz] at hs
     simp only [DataW.weights, Tryz.underlying27, Tryz.underlying24, List.map_cons, List.map_nil, DataW.weightsEach, List.all_append, Bool.and_eq_true] at hs
     obtain ⟨⟨_, s1, _⟩, _, _, s3, s4, s5, s6, _⟩ := hs
     exact ⟨L1 s1, L3 s3, L4 s4, L5 s5, L6 s6⟩
end Go.Proofs.YtmambfdimeeijaaGreatDoor

namespace Go.Proofs.YtmambfdimeeijaaGreatDoor
open Go.RowKit Go.Maps Go.WideMaps
set_option maxRecDepth 100000
def quietC (C : Ci) (t i : Nat) : List (List Int) := rootC (turn (atL C.f t (C.b.ns.getD i 0)))
def quietT (C : Ci) (t : Nat) : List (List Int) := stepsL (quietC C t) C.b.ns.length
set_option maxHeartbeats 8000000 in
theorem quietStep_any (w0 : World) (M : Nat) (C : Ci) (last : Nat) (hC : COk w0 C last) (U G : Nat) (t : Nat) (ht : t ≤ last) (w : World) (v : Value) (vars : Int) (rs : List Row)
   (hU : Un w0 w M v vars rs C last) (hB : Bxs w v M [(⟨U, 0, none⟩, .pointer (some ⟨M, 0, none⟩)), (⟨G, 0, none⟩, C.b.v)]) (hl : rs.length + (quietT C t).length ≤ 800000) :
   Calls Tryz.prog 57 #[.int .i64 t, .pointer (some ⟨G, 0, none⟩), .pointer (some ⟨U, 0, none⟩)] w (MkOut w0 w M v (vars + 0) rs (quietT C t) C last) := by
 have ht1 := hC.tf (show t ≤ last by omega)
 have hf := hC.f0
 have hpl := hC.pl
 have hla := hC.la
 have hhl := hC.bl
 have hsm := hC.sm
 have hi1 := hC.i1
 have hi0 := hC.i0
 have ha0 := hC.a0
 have hfe : C.f = C.ins + C.ps.length := rfl
 have HB := hide hB
 have HU := hide hU
 have HC := hide hC
 have HL : Hid (∀ k, k ≤ C.b.ns.length → (stepsL (quietC C t) k).length ≤ (quietT C t).length) := fun k hk => stepsL_mono _ hk
 have HSU : Hid (∀ k, stepsL (quietC C t) (k + 1) = stepsL (quietC C t) k ++ rootC (turn (atL C.f t (C.b.ns.getD k 0)))) := fun k => stepsL_succ _ k
 have g0 := (hB _ _ (.tail _ (.head _))).1
 have hZ : Hid (quietT C t = stepsL (quietC C t) C.b.ns.length) := rfl
 generalize quietT C t = Z at *
 clear hB hU hC
 simp only [Sl.v] at g0
 obtain ⟨pp, HPP⟩ : ∃ pp, Hid (C.b.at' = pp) := ⟨_, rfl⟩
 rw [HPP.out] at g0
 go_enter Tryz.func57, Tryz.ntmps57
 go_wp2
 go_loopw [8] (fun i wr => ∃ k : Nat, k ≤ C.b.ns.length ∧ i = .int .i64 k ∧ Hid (∃ v' rs', numsOf rs' = numsOf rs ++ stepsL (quietC C t) k ∧ Un w0 wr M v' vars rs' C last ∧ Kp M w v wr v')) (fun i _ => C.b.ns.length - (intOf i).toNat)
 case atStart => exact ⟨0, Nat.zero_le _, rfl, v, rs, by simp [stepsL], HU.out, Kp.refl _ _ _⟩
 case round =>
   obtain ⟨k, hk, rfl, HR⟩ := hrel
   obtain ⟨v1, rs1, hn1, hU1, hk1⟩ := HR.out
   by_cases hlt : k < C.b.ns.length
   · have hki : (k : Int) < (C.b.ns.length : Int) := by omega
     have b1 := ((HB.out.kp hk1) _ _ (.head _)).1
     have hle := HL.out (k + 1) (by omega)
     have hbn := HC.out.nb _ (getD_mem' hlt)
     obtain ⟨gb, goff, hge, hgc⟩ := (HC.out.at'.b.later hU1.bl) (by omega)
     have gk := hgc k hlt
     obtain rfl : pp = some ⟨gb, goff, none⟩ := HPP.out.symm.trans hge
     clear hge
     rw [show C.b.ns[k] = C.b.ns.getD k 0 by simp [List.getD, List.getElem?_eq_getElem hlt]] at gk
     have HSK := hide (HSU.out k)
     have hln := numsOf_lenE hn1
     rw [List.length_append, numsOf_len] at hln
     rw [HSK.out, List.length_append] at hle
     have hat := atL_bd (x := C.b.ns.getD k 0) ht1.1 ht1.2 hbn.1 hbn.2
     have HAT := hide (fun w' (hb : Below wr.heap.size wr w') => at_any M C last t (C.b.ns.getD k 0) (by omega) hi1 (by omega) hbn.1 (by omega) ht1.1 (by omega) w' (hU1.un.later hb))
     have htb := turn_bd hat.1
     have HTU := hide (fun w' => turn_any (atL C.f t (C.b.ns.getD k 0)) hat.1 (by omega) w')
     have HSM := hide (fun w' (hb : Below wr.heap.size wr w') => rootM_any w0.heap.size M v1 vars rs1 (by omega) (turn (atL C.f t (C.b.ns.getD k 0))) htb.1 (by omega) w' (by have := hU1.sz; have := hb.size; omega) (hU1.cm.below hb))
     have HN1 := hide hn1
     have HU1 := hide hU1
     have HK1 := hide hk1
     have hbd : Below wr.heap.size wr wr.drew := (Below.refl _ wr).drew
     have hxU : ∀ w' v', Kp M wr v1 w' v' → w'.cell? ⟨U, 0, none⟩ = some (.pointer (some ⟨M, 0, none⟩)) := fun w' v' hk => (((HB.out.kp hk1).kp hk) _ _ (.head _)).1
     have HXU := hide hxU
     generalize atL C.f t (C.b.ns.getD k 0) = y at *
     generalize turn y = yt at *
     generalize C.b.ns.getD k 0 = z at *
     clear hgc hxU hn1 hU1 hk1 HR hat hbn hle hln htb
     go_wp2
     go_region_held3 (fun w' => w'.cell? ⟨U, 0, none⟩ = some (.pointer (some ⟨M, 0, none⟩)))
       (first | exact HXU.out _ _ hk4 | exact cell_later hbB b1 | exact cell_later hbd b1 | go_keep)
       (first
         | (go_at_call 51; have hq := hbB; refine (HSM.out _ hbB).mono ?_; rintro e w4 ⟨rfl, v4, rs4, hn4, hc4, hb4, hk4'⟩; have hk4 := (Kp.later (M := M) (v := v1) hbB).trans hk4')
         | (go_at_call 58; have hq := hbB; refine (HTU.out _).mono ?_; rintro e wT ⟨rfl, hwT⟩; obtain rfl : wB = wT := hwT.symm)
         | (go_at_call 45; refine (HAT.out _ hbd).mono ?_; rintro e wB ⟨rfl, hb⟩; have hbB := bthen hbd hb))
     all_goals
       rename_i hHeld
       have HR4 := hide (show ∃ v' rs', numsOf rs' = numsOf rs ++ stepsL (quietC C t) (k + 1) ∧ Un w0 w4 M v' vars rs' C last ∧ Kp M w v w4 v' from ⟨v4, rs4, by rw [hn4, HN1.out, HSK.out, List.append_assoc], HU1.out.next hc4 ((hbB.mono HU1.out.sz).trans hb4) hk4, HK1.out.trans hk4⟩)
       clear hHeld hn4 hc4 hb4 hk4 hk4' hbB HSM HAT HTU HSK
       go_wp2
       go_roundw
       case rel => exact ⟨k + 1, by omega, by go_num, HR4⟩
       case measure => simp [intOf]; omega
   · obtain rfl : k = C.b.ns.length := by omega
     have HE := hide (show MkOut w0 w M v (vars + 0) rs Z C last (.returned (.tuple #[])) wr from ⟨rfl, v1, rs1, by rw [hn1, hZ.out], by simpa using hU1, hk1⟩)
     clear hn1 hU1 hk1
     go_wp2
     go_end0
     exact HE.out
theorem enter155 (args : Array Value) (w : World) : (callFunc 57 args).run Tryz.prog w = .ok (.enter 57 args) w := by kernel_rfl
theorem quiet_makes (w0 : World) (M : Nat) (C : Ci) (last : Nat) (hC : COk w0 C last) (U G S A : Nat) (cs : Int) :
   Makes w0 M C last ⟨0, cs, 78, #[.pointer (some ⟨S, 0, none⟩), .pointer (some ⟨A, 0, none⟩)], (⟨S, 0, none⟩, .int .i64 last) :: (⟨A, 0, none⟩, .func (.func 57) #[] #[.pointer (some ⟨G, 0, none⟩), .pointer (some ⟨U, 0, none⟩)]) :: [(⟨U, 0, none⟩, .pointer (some ⟨M, 0, none⟩)), (⟨G, 0, none⟩, C.b.v)], stepsL (quietT C) last, none⟩ :=
 eachMake_any w0 M C last 57 _ _ _ (quietT C) 0 (by decide) S A last (by have := hC.la; omega) 0 cs (by simp) enter155 (fun t ht w v vars rs h1 h2 h3 _ _ => quietStep_any w0 M C last hC U G t (by omega) w v vars rs h1 h2 h3)
end Go.Proofs.YtmambfdimeeijaaGreatDoor

namespace Go.Proofs.YtmambfdimeeijaaGreatDoor
open Go.RowKit Go.Maps Go.WideMaps
set_option maxRecDepth 100000
set_option maxHeartbeats 2000000 in
theorem newV_any (w0 w : World) (M : Nat) (v : Value) (vars : Int) (rs : List Row) (C : Ci) (last : Nat) (h0 : 0 ≤ vars) (h1 : vars ≤ 1000000000) (hU : Un w0 w M v vars rs C last) :
   Calls Tryz.prog 85 #[.pointer (some ⟨M, 0, none⟩)] w fun e w' => e = .returned (.int .i64 (vars + 1)) ∧ w' = w.setCell ⟨M, 0, none⟩ (.int .i64 (vars + 1)) := by
 have c0 := hU.cm.c0
 have f0 := hU.cm.f0
 have ww := wrap_id (x := vars + 1) (by omega) (by omega)
 clear hU
 go_enter Tryz.func85, Tryz.ntmps85
 go_wp2
 go_ret
 exact ⟨rfl, rfl⟩
def differC (C : Ci) (t u : Nat) (v : Int) (i : Nat) : List (List Int) :=
 [[-(v + i + 1), numL (stL C.f C.a t i), numL (stL C.f C.a u i)], [-(v + i + 1), -numL (stL C.f C.a t i), -numL (stL C.f C.a u i)]]
def someV (v : Int) (n : Nat) : List Int := (List.range n).map fun i : Nat => v + (i : Int) + 1
def differT (C : Ci) (t u : Nat) (v : Int) : List (List Int) := stepsL (differC C t u v) C.s.toNat ++ [someV v C.s.toNat]
theorem someV_succ (v : Int) (n : Nat) : someV v (n + 1) = someV v n ++ [v + n + 1] := by simp [someV, List.range_succ]
theorem differ_len (C : Ci) (t u : Nat) (v : Int) (n : Nat) : (stepsL (differC C t u v) n).length = n * 2 := by
 induction n with
 | zero => simp [stepsL]
 | succ n ih => rw [stepsL_succ, List.length_append, ih]; simp [differC]; omega
end Go.Proofs.YtmambfdimeeijaaGreatDoor

namespace Go.Proofs.YtmambfdimeeijaaGreatDoor
open Go.RowKit Go.Maps Go.WideMaps
set_option maxRecDepth 100000
def numP (x off : Int) : Int := if odd x = true then -(x / 2 + off) else x / 2 + off
theorem numP_at (f : Int) (t : Nat) (x : Int) (hx : 2 ≤ x) : numP x (t * f) = numL (atL f t x) := by
 have h1 : ¬ x / 2 = 0 := by omega
 have h2 : (x + 2 * (t * f)) / 2 = x / 2 + t * f := by omega
 have h3 : odd (x + 2 * (t * f)) = odd x := by unfold odd; rw [show (x + 2 * ((t : Int) * f)) % 2 = x % 2 by omega]
 unfold numP numL atL
 rw [if_neg h1, h2, h3]
set_option maxHeartbeats 1000000 in
theorem numP_any (x off : Int) (h : 0 ≤ x) (h2 : x ≤ 10000000) (h3 : 0 ≤ off) (h4 : off ≤ 10000000) (w : World) :
   Calls Tryz.prog 17 #[.int .i64 x, .int .i64 off] w fun e w' => e = .returned (.int .i64 (numP x off)) ∧ w' = w := by
 have HE : Hid (numP x off = if odd x = true then -(x / 2 + off) else x / 2 + off) := rfl
 generalize numP x off = R at *
 have wa := wrap_id (x := x / 2 + off) (by omega) (by omega)
 have wn := wrap_id (x := -(x / 2 + off)) (by omega) (by omega)
 by_cases ho : x % 2 = 1
 · have HX : Hid (R = -(x / 2 + off)) := by unfold Hid; rw [HE.out, if_pos (by simpa [odd] using ho)]
   go_enter Tryz.func17, Tryz.ntmps17
   go_wp2
   go_ret
   exact ⟨ret_int HX.out.symm, rfl⟩
 · have HX : Hid (R = x / 2 + off) := by unfold Hid; rw [HE.out, if_neg (by simpa [odd] using ho)]
   have hb : (x % 2 == 1) = false := by simpa using ho
   go_enter Tryz.func17, Tryz.ntmps17
   go_wp2
   go_ret
   exact ⟨ret_int HX.out.symm, rfl⟩
set_option maxHeartbeats 2000000 in
theorem hasP_any (x : Int) (l : List Int) (q : Option Addr) (qc : Nat) (hl : l.length ≤ 17592186044416) (w : World) (hI : IntsAt w q l) :
   Calls Tryz.prog 19 #[.slice q l.length qc, .int .i64 x] w fun e w' => e = .returned (.bool (decide (x ∈ l))) ∧ w' = w := by
 have HI := hide hI
 clear hI
 have HD : Hid (∀ b : Bool, (b = true ↔ x ∈ l) → decide (x ∈ l) = b) := fun b h => by rw [Bool.eq_iff_iff]; simp [h]
 generalize decide (x ∈ l) = R at *
 go_enter Tryz.func19, Tryz.ntmps19
 go_wp2
 go_loopw [5] (fun i wr => ∃ k : Nat, k ≤ l.length ∧ i = .int .i64 k ∧ Hid (x ∉ l.take k) ∧ wr = w) (fun i _ => l.length - (intOf i).toNat)
 case atStart => exact ⟨0, Nat.zero_le _, rfl, by simp [Hid], rfl⟩
 case round =>
   obtain ⟨k, hk, rfl, HN, hwr⟩ := hrel
   obtain rfl : w = wr := hwr.symm
   by_cases hlt : k < l.length
   · obtain ⟨b, off, rfl, hcs⟩ := HI.out (by omega)
     have c0 := hcs k hlt
     have hki : (k : Int) < (l.length : Int) := by omega
     have HM : Hid (l[k] ∈ l) := List.getElem_mem hlt
     have HS : Hid (l.take (k + 1) = l.take k ++ [l[k]]) := List.take_succ_eq_append_getElem hlt
     clear hcs
     generalize l[k] = y at *
     by_cases hy : y = x
     · subst hy
       have HE : Hid (R = true) := HD.out true ⟨fun _ => HM.out, fun _ => rfl⟩
       clear HN HM HS HD
       go_wp2
       go_ret
       exact ⟨ret_bool HE.out.symm, rfl⟩
     · have hyb : (y == x) = false := by simpa using hy
       have HN2 : Hid (x ∉ l.take (k + 1)) := by
         unfold Hid
         rw [HS.out]
         intro h
         rcases List.mem_append.1 h with h | h
         · exact HN.out h
         · exact hy ((by simpa using h : x = y).symm)
       clear HN HM HS hy
       go_wp2
       go_roundw
       case rel => exact ⟨k + 1, by omega, by go_num, HN2, trivial⟩
       case measure => simp [intOf]; omega
   · obtain rfl : k = l.length := by omega
     have HE : Hid (R = false) := HD.out false ⟨(fun h => by cases h), fun h => absurd (by rw [List.take_length]; exact h) HN.out⟩
     clear HN HD
     go_wp2
     go_ret
     exact ⟨ret_bool HE.out.symm, rfl⟩
end Go.Proofs.YtmambfdimeeijaaGreatDoor

namespace Go.Proofs.YtmambfdimeeijaaGreatDoor
open Go.RowKit Go.Maps Go.WideMaps
set_option maxRecDepth 100000
set_option maxHeartbeats 4000000 in
theorem addP_any (base M : Nat) (v : Value) (vars : Int) (rs : List Row) (hrs : rs.length ≤ 1000000000) (l : List Int) (q : Option Addr) (qc : Nat) (w : World) (hbs : base ≤ w.heap.size) (hmk : Cm w base M v vars rs) (hI : IntsAt w q l) (hq : ∀ a, q = some a → a.block ≠ M ∧ v.ownBlock ≠ some a.block ∧ a.block < w.heap.size ∧ base ≤ a.block) :
   Calls Tryz.prog 14 #[.slice q l.length qc, .pointer (some ⟨M, 0, none⟩)] w fun e w' => e = .returned (.tuple #[]) ∧ ∃ v' r, r.ns = l ∧ Cm w' base M v' vars (rs ++ [r]) ∧ Below base w w' ∧ Kp M w v w' v' := by
 obtain ⟨i0, hi, hz0, hz1, hz2⟩ := info_parts infoR
 obtain ⟨pv, cv, rfl, _⟩ := owns_rows hmk.row
 have m1 := hmk.c1
 have f1 := hmk.f1
 have HMK := hide hmk
 have HI := hide hI
 have HQ := hide hq
 have HIN := hide (And.intro hi (And.intro hz0 (And.intro hz1 hz2)))
 have hlt0 := World.block_lt_of_cell? _ _ hmk.c1
 simp only at hlt0
 clear hI hmk hi hz0 hz1 hz2 hq
 go_enter Tryz.func14, Tryz.ntmps14
 go_wp2_with (at_builtin; refine wpList_append_lies _ rfl _ _ 28 rfl base 25 i0 (.slice none 0 0) 1 24 Tryz.underlying28 HIN.out.1 HIN.out.2.1 HIN.out.2.2.1 HIN.out.2.2.2 rfl (by decide) (.slice pv rs.length cv) rs.length (rs.map Row.v) rfl (HMK.out.row.alloc _) ⟨w.heap.size, 0, none⟩ 1 1 [(Row.mk q l qc).v] rfl rfl ?d0 ?d1 (by omega) ?d2 ?d3 ?d4 _ rfl ?_)
 case d0 => exact one_news ⟨q, l, qc⟩ w
 case d1 => exact one_cell ⟨q, l, qc⟩
 case d2 => unfold maxLen; omega
 case d3 => omega
 case d4 => simp; omega
 intro g cap w2 hown2 hg2 hat2 hlt2
 have g1 := hg2.cell (a := ⟨M, 1, none⟩) (past1 m1 _) (fun e => HMK.out.nv e.symm)
 have f2 : w2.frozen? ⟨M, 1, none⟩ = false := (grown_frozen hg2 (past1 m1 _) (fun e => HMK.out.nv e.symm)).trans (((bal (Below.refl _ _) _).frozen (World.block_lt_of_cell? _ _ m1)).trans f1)
 have hmem := add_memC (r := ⟨q, l, qc⟩) hbs HMK.out HI.out HQ.out hg2 hown2 (by simpa using hat2)
 have HMM := hide hmem
 clear hmem
 go_wp2
 go_end0
 exact ⟨rfl, _, _, rfl, HMM.out.1, HMM.out.2.1 _ (Below.refl _ _), HMM.out.2.2⟩
end Go.Proofs.YtmambfdimeeijaaGreatDoor

namespace Go.Proofs.YtmambfdimeeijaaGreatDoor
open Go.RowKit Go.Maps Go.WideMaps
set_option maxRecDepth 100000
def mustP (x off : Int) : List (List Int) := if x = 1 then [] else if x = 0 then [[]] else [[numP x off]]
def NewRows (w : World) (L : List (List Int)) (e : Ending) (w' : World) : Prop :=
 ∃ (p : Option Addr) (cap : Nat) (rs : List Row), e = .returned (.slice p rs.length cap) ∧ rs.map Row.ns = L ∧ RowsAt w' p rs ∧ InAt w' rs ∧
   (∀ r ∈ rs, ∀ a, r.at' = some a → w.heap.size ≤ a.block ∧ a.block < w'.heap.size) ∧ (∀ a, p = some a → w.heap.size ≤ a.block ∧ a.block < w'.heap.size) ∧ Below w.heap.size w w'
theorem newRows_nil (w : World) : NewRows w [] (.returned (.slice none 0 0)) w :=
 ⟨none, 0, [], rfl, rfl, fun h => by simp at h, fun _ h => (by cases h), fun _ h => (by cases h), fun _ h => (by cases h), Below.refl _ _⟩
theorem newRows_void (w : World) (ty : TypeId) : NewRows w [[]] (.returned (.slice (some ⟨w.heap.size, 0, none⟩) 1 1)) (w.alloc (.cells #[.slice none 0 0] ty)) := by
 refine ⟨_, _, [⟨none, [], 0⟩], rfl, rfl, fun _ => ⟨_, _, rfl, fun i hi => ?_⟩, fun r h => ?_, fun r h a ha => ?_, fun a ha => ?_, bal (Below.refl _ _) _⟩
 · match i, hi with
   | 0, _ => simp [go_sem, Row.v]
 · simp at h; subst h; exact fun h => by simp at h
 · simp at h; subst h; cases ha
 · cases ha; simp
theorem newRows_one (w : World) (x : Int) (t1 t2 : TypeId) :
   NewRows w [[x]] (.returned (.slice (some ⟨w.heap.size + 1, 0, none⟩) 1 1)) ((w.alloc (.cells #[.int .i64 x] t1)).alloc (.cells #[.slice (some ⟨w.heap.size, 0, none⟩) 1 1] t2)) := by
 refine ⟨_, _, [⟨some ⟨w.heap.size, 0, none⟩, [x], 1⟩], rfl, rfl, fun _ => ⟨_, _, rfl, fun i hi => ?_⟩, fun r h => ?_, fun r h a ha => ?_, fun a ha => ?_, bal (bal (Below.refl _ _) _) _⟩
 · match i, hi with
   | 0, _ => simp [go_sem, Row.v]
 · simp at h; subst h
   refine fun _ => ⟨_, _, rfl, fun i hi => ?_⟩
   match i, hi with
   | 0, _ => simp [go_sem]
 · simp at h; subst h; cases ha; simp; omega
 · cases ha; simp
set_option maxHeartbeats 2000000 in
theorem mustP_any (x off : Int) (h : 0 ≤ x) (h2 : x ≤ 10000000) (h3 : 0 ≤ off) (h4 : off ≤ 10000000) (w : World) :
   Calls Tryz.prog 18 #[.int .i64 x, .int .i64 off] w (NewRows w (mustP x off)) := by
 have HN := hide (numP_any x off h h2 h3 h4)
 have HE : Hid (mustP x off = if x = 1 then [] else if x = 0 then [[]] else [[numP x off]]) := rfl
 generalize mustP x off = R at *
 by_cases h1 : x = 1
 · have HX : Hid (R = []) := by unfold Hid; rw [HE.out, if_pos h1]
   subst h1
   clear HN HE
   go_enter Tryz.func18, Tryz.ntmps18
   go_wp2
   go_ret
   rw [HX.out]
   exact newRows_nil w
 · by_cases h0 : x = 0
   · have HX : Hid (R = [[]]) := by unfold Hid; rw [HE.out, if_neg h1, if_pos h0]
     subst h0
     clear HN HE
     go_enter Tryz.func18, Tryz.ntmps18
     go_wp2
     go_ret
     rw [HX.out]
     exact newRows_void w _
   · have HX : Hid (R = [[numP x off]]) := by unfold Hid; rw [HE.out, if_neg h1, if_neg h0]
     have hb1 : (x == 1) = false := by simpa using h1
     have hb0 : (x == 0) = false := by simpa using h0
     clear HE h1 h0
     generalize numP x off = y at *
     go_enter Tryz.func18, Tryz.ntmps18
     go_wp2_with fail
     refine (HN.out _).mono ?_
     rintro e w1 ⟨rfl, hw1⟩
     obtain rfl : w = w1 := hw1.symm
     clear hw1 HN
     go_wp2
     go_ret
     rw [HX.out]
     exact newRows_one w y _ _
end Go.Proofs.YtmambfdimeeijaaGreatDoor
