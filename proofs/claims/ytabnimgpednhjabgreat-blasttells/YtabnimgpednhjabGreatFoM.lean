import Derived.Test.YtabnimgpednhjabGreatFlM
import Derived.Test.YtabnimgpednhjabGreatBgM
namespace Go.Proofs.YtabnimgpednhjabGreat.Gg
open Go.RowKit Go.Maps Go.WideMaps
set_option maxRecDepth 100000
theorem sem_in (bs : List Bool) (q : Nat) : sem [] bs (2 * ((q : Int) + 1)) = bs.getD q false := by
 unfold sem litV
 have h1 : (2 * ((q : Int) + 1) / 2).toNat = q + 1 := by omega
 have h2 : odd (2 * ((q : Int) + 1)) = false := by unfold odd; simp
 rw [h1, h2]
 show ((false :: bs).getD (q + 1) false != false) = _
 simp
theorem chk_nil {n : Nat} (h : n ≤ 1000) : chkE n [] = 0 := by
 unfold chkE
 have hb : btw (n : Int) 0 1000 = true := by simp [btw]; omega
 rw [if_neg (by simp [hb])]
 rfl
theorem owns_base {w : World} {b b' e size n : Nat} {v : Value} {xs : List Value} (h : w.ownsRow b e size v n xs) (hb : b' ≤ b) : w.ownsRow b' e size v n xs := by
 obtain ⟨h1, h2⟩ := h
 refine ⟨h1, ?_⟩
 rcases h2 with h2 | ⟨g, cap, cur, rfl, hg, hr⟩
 · exact Or.inl h2
 · exact Or.inr ⟨g, cap, cur, rfl, Nat.le_trans hb hg, hr⟩
theorem start_kz {E : List Bool → List Int → Prop} {ns : List Nd} {a0 : Option Addr} {c0 : Nat} {w w4 wp : World} {D DM : DataW Unit} {M B : Nat} {v : Value}
   (hE : ∀ bs vs, E bs vs → ∀ t, t < (inL ns).length → ((numB (fun j => bs.getD (inT ns t + j) false) (wdOf ns ((inL ns).getD t 0)).toNat : Nat) : Int) = vs.getD ((inL ns).getD t 0).toNat 0)
   (hW : ∀ k, k < ns.length → 1 ≤ wdOf ns k ∧ wdOf ns k ≤ 8) (hT : inT ns (inL ns).length ≤ 16) (hN : NodesAt w a0 ns) (hs4 : St a0 c0 ns w w4 D (inL ns).length) (hsp : St a0 c0 ns w wp D (inL ns).length) (hb4 : Below wp.heap.size wp w4)
   (hmk : Mk w4 wp.heap.size M B v (inT ns (inL ns).length : Nat) []) (hmo : w4.ownsMap Tryz.prog 81 (plainElem Tryz.prog 3) B 0 DM) (hmi : MapIs (inT ns (inL ns).length : Nat) [] 0 DM) :
   Kz (fun g => g = w.heap.size + 1) E ns a0 c0 (w4.setCell ⟨w.heap.size + 2, 0, none⟩ (.pointer (some ⟨M, 0, none⟩))) w.heap.size (w.heap.size + 2) M B (w.heap.size + 1) v (inT ns (inL ns).length) [] D ∧ Below w.heap.size w (w4.setCell ⟨w.heap.size + 2, 0, none⟩ (.pointer (some ⟨M, 0, none⟩))) := by
 have hsz := hsp.sz
 have hM := hmk.hM
 have hB := hmk.hB
 have hv : ∀ g, v.ownBlock = some g → wp.heap.size ≤ g := fun g hg => (hmk.row.lt g hg).1
 have hap : ∀ g, g < wp.heap.size → Apart M B v g := fun g hg => ⟨by omega, by omega, fun e => by have := hv g e; omega⟩
 have hbel : Below w.heap.size w (w4.setCell ⟨w.heap.size + 2, 0, none⟩ (.pointer (some ⟨M, 0, none⟩))) := hs4.bel.setCell (p := ⟨w.heap.size + 2, 0, none⟩) (by simp) _
 have fz : ∀ {q : Addr} {x : Value}, w4.cell? q = some x → q ≠ ⟨w.heap.size + 2, 0, none⟩ → (w4.setCell ⟨w.heap.size + 2, 0, none⟩ (.pointer (some ⟨M, 0, none⟩))).cell? q = some x := fun {q x} h1 h2 => by
   rw [World.cell?_setCell_other w4 _ _ _ (fun e => h2 e.symm)]; exact h1
 have hs4' := hs4.sz
 refine ⟨⟨⟨⟨⟨cell_set_far hmk.c0 (by simp only [ne_eq]; omega), cell_set_far hmk.c1 (by simp only [ne_eq]; omega), cell_set_far hmk.c2 (by simp only [ne_eq]; omega), by rw [World.frozen?_setCell]; exact hmk.f1, owns_base (owns_set hmk.row (fun e => by have := hv _ e; simp only at this; omega)) (by omega), by omega, by omega, hmk.ne, hmk.nv, hmk.nb⟩,
     ⟨DM, hmo.setCell (by simp only [ne_eq]; omega) _, hmi⟩, fun i h => by simp at h⟩, World.cell?_setCell_same w4 _ _ hs4.b0, hap _ (by omega), by simpa using Nat.le_trans (by omega) hs4', chk_nil (by omega)⟩,
   fz hs4.b1 (by simp), fz hs4.b2 (by simp), map_block hs4.own (Below.heap_setCell w4 _ _ _ (by simp)), by omega, hap _ (by omega), by omega, ?_, ?_, fun k hk => ?_, rfl, fun k hk hkd => ?_⟩, hbel⟩
 · intro h0
   obtain ⟨b, off, e, hc⟩ := hN h0
   refine ⟨b, off, e, fun i hi => ?_⟩
   obtain ⟨d0, d1, d2, d3, d4, d5⟩ := hc i hi
   exact ⟨cell_later hbel d0, cell_later hbel d1, cell_later hbel d2, cell_later hbel d3, cell_later hbel d4, cell_later hbel d5⟩
 · intro h0 b off e
   obtain ⟨b', off', e', hc⟩ := hN h0
   rw [e] at e'
   cases e'
   exact World.block_lt_of_cell? _ _ (hc 0 h0).1
 · by_cases hex : ∃ i, i < (inL ns).length ∧ (inL ns).getD i 0 = k
   · obtain ⟨i, hi, hik⟩ := hex
     obtain ⟨h1, b, h2, h3, h4, h5⟩ := hsp.k2 i hi hi
     rw [hik] at h1 h2
     have hwk := hW k hk
     have hlen := inB_len ns i
     rw [hik] at hlen
     have hTi := inT_succ hi
     have hTl := inT_le ns ((inL ns).length - (i + 1)) (i + 1) (by omega)
     rw [hik] at hTi
     refine Or.inr ⟨h1, b, 0, (inB ns i).length, inB ns i, h2, ⟨la_row (irow_far (h3.kept (hb4.block b h5)) (by simp only [ne_eq]; omega) _) (hap b h5), ⟨Nat.le_refl _, by unfold maxLen; omega⟩, fun y hy => ?_⟩, by omega, ?_, fun bs vs hb => ?_⟩
     · unfold inB at hy
       rw [hik] at hy
       obtain ⟨j, hj, rfl⟩ := List.mem_map.1 hy
       have hj' := List.mem_range.1 hj
       refine ⟨by omega, ?_⟩
       simp only [List.length_nil]
       omega
     · rw [hlen]; omega
     · have hh := hE bs vs hb i hi
       rw [hik, Int.toNat_natCast] at hh
       rw [← hh]
       congr 1
       unfold inB
       rw [numW_map, hik]
       refine numB_congr fun j _ => ?_
       have := sem_in bs (inT ns i + j)
       rw [← this]
       congr 1
   · exact Or.inl (hsp.k3 k (fun i hi _ e => hex ⟨i, hi, e⟩))
 · obtain ⟨i, hi, hik⟩ := inL_has hk hkd
   have := (hsp.k2 i hi hi).1
   rw [hik] at this
   exact this
end Go.Proofs.YtabnimgpednhjabGreat.Gg

namespace Go.Proofs.YtabnimgpednhjabGreat.Gg
open Go.RowKit Go.Maps Go.WideMaps
set_option maxRecDepth 100000
set_option maxHeartbeats 4000000 in
theorem made0_any (fn : FuncId) (f : Nat → Int) (n B : Nat) (hn : n ≤ 1000) (F : Nat → Prop) (J : Nat → World → Prop) (w : World) (hB : B ≤ w.heap.size) (hF : ∀ g, F g → g < w.heap.size) (hJ : J 0 w)
   (hst : ∀ k w1 w2, J k w1 → (∀ g, F g → w2.heap[g]? = w1.heap[g]?) → J k w2)
   (hent : ∀ (args : Array Value) (w : World), (callFunc fn args).run Tryz.prog w = .ok (.enter fn args) w)
   (hcl : ∀ k, k < n → ∀ wr, w.heap.size ≤ wr.heap.size → J k wr → Calls Tryz.prog fn #[.int .i64 k] wr fun e w' => e = .returned (.int .i64 (f k)) ∧ J (k + 1) w' ∧ Below B wr w' ∧ ∀ g, ¬ F g → g < wr.heap.size → w'.heap[g]? = wr.heap[g]?) :
   Calls Tryz.prog 56 #[.int .i64 n, .func (.func fn) #[] #[]] w fun e w' => ∃ G, e = .returned (.slice (some ⟨G, 0, none⟩) n n) ∧ w.heap.size ≤ G ∧ IRow w' G ((List.range n).map f) ∧ J n w' ∧ Below B w w' ∧ ∀ g, ¬ F g → g < w.heap.size → w'.heap[g]? = w.heap[g]? := by
 obtain ⟨w1, hmk, hrow, hb1, hlt1⟩ := make_ints n (by omega) w
 have HF := hide hF
 have HST := hide hst
 have HCL := hide hcl
 have HJ1 := hide (hst 0 w w1 hJ (fun g hg => hb1.block g (hF g hg)))
 have HR1 := hide hrow
 have HB1 := hide (hb1.mono hB)
 have HK1 : Hid (∀ g, ¬ F g → g < w.heap.size → w1.heap[g]? = w.heap[g]?) := fun g _ hg => hb1.block g hg
 clear hF hst hcl hJ hrow
 go_enter Tryz.func56, Tryz.ntmps56
 go_wp2
 go_loopw [11] (fun i wr => ∃ k : Nat, k ≤ n ∧ i = .int .i64 k ∧ Hid (IRow wr w.heap.size (curI f n k)) ∧ Hid (J k wr) ∧ Hid (Below B w wr) ∧ Hid (∀ g, ¬ F g → g < w.heap.size → wr.heap[g]? = w.heap[g]?) ∧ w1.heap.size ≤ wr.heap.size) (fun i _ => n - (intOf i).toNat)
 case atStart => exact ⟨0, Nat.zero_le _, rfl, by rw [curI_zero]; exact HR1.out, HJ1, HB1, HK1, Nat.le_refl _⟩
 case round =>
   obtain ⟨k, hk, rfl, HR, HJ, HBW, HKW, hsz⟩ := hrel
   have hcl := curI_len f n k hk
   by_cases hlt : k < n
   · have hki : (k : Int) < (n : Int) := by omega
     have HC := hide (HCL.out k hlt wr (by omega) HJ.out)
     have HS := hide (curI_set f n k hlt)
     go_wp2_with fail
     refine HC.out.mono ?_
     rintro e w2 ⟨rfl, hj2, hb2, hk2⟩
     have hnF : ¬ F w.heap.size := fun h => by have := HF.out _ h; omega
     have hr2 := HR.out.kept (hk2 _ hnF (by omega))
     obtain ⟨g0, g1⟩ := hr2 k (by omega)
     have hs2 := hb2.size
     have HR3 := hide (hr2.set k (f k))
     rw [HS.out] at HR3
     have HJ3 := hide (HST.out (k + 1) w2 (w2.setCell ⟨w.heap.size, k, none⟩ (.int .i64 (f k))) hj2 (fun g hg => Below.heap_setCell w2 _ _ g (by have := HF.out g hg; simp; omega)))
     have HB3 := hide ((HBW.out.trans hb2).setCell (p := ⟨w.heap.size, k, none⟩) hB (.int .i64 (f k)))
     have HK3 : Hid (∀ g, ¬ F g → g < w.heap.size → (w2.setCell ⟨w.heap.size, k, none⟩ (.int .i64 (f k))).heap[g]? = w.heap[g]?) := fun g h1 h2 => by
       rw [Below.heap_setCell w2 _ _ g (by simp; omega), hk2 g h1 (by omega)]
       exact HKW.out g h1 h2
     generalize (curI f n k)[k]'(by omega) = old at *
     generalize f k = x at *
     clear hr2 hj2 hb2 hk2 HR HJ HBW HKW HC HS
     go_wp2
     go_roundw
     case rel => exact ⟨k + 1, by omega, by go_num, HR3, HJ3, HB3, HK3, by simp; omega⟩
     case measure => simp [intOf]; omega
   · obtain rfl : k = n := by omega
     rw [curI_all] at HR
     go_wp2
     go_ret
     exact ⟨w.heap.size, rfl, Nat.le_refl _, HR.out, HJ.out, HBW.out, HKW.out⟩
theorem enter57 (args : Array Value) (w : World) : (callFunc 57 args).run Tryz.prog w = .ok (.enter 57 args) w := by kernel_rfl
theorem op57_any (k : Int) (w : World) : Calls Tryz.prog 57 #[.int .i64 k] w fun e w' => e = .returned (.int .i64 (-1)) ∧ w' = w := by
 go_enter Tryz.func57, Tryz.ntmps57
 go_wp2
 go_ret
 exact ⟨rfl, rfl⟩
theorem free_any (n : Nat) (hn : n ≤ 1000) (w : World) : Calls Tryz.prog 56 #[.int .i64 n, .func (.func 57) #[] #[]] w fun e w' => ∃ G, e = .returned (.slice (some ⟨G, 0, none⟩) n n) ∧ w.heap.size ≤ G ∧ IRow w' G (List.replicate n (-1)) ∧ Below w.heap.size w w' := by
 refine (made0_any 57 (fun _ => -1) n w.heap.size hn (fun _ => False) (fun _ _ => True) w (Nat.le_refl _) (fun g h => h.elim) trivial (fun _ _ _ _ _ => trivial) enter57 (fun k _ wr _ _ => (op57_any k wr).mono fun e w' ⟨h1, h2⟩ => by
   subst h2
   exact ⟨h1, trivial, Below.refl _ _, fun _ _ _ => rfl⟩)).mono ?_
 rintro e w' ⟨G, rfl, hG, hr, _, hb, _⟩
 refine ⟨G, rfl, hG, ?_, hb⟩
 have e : (List.range n).map (fun _ : Nat => (-1 : Int)) = List.replicate n (-1) := by
   rw [List.eq_replicate_iff]; simp
 rw [← e]; exact hr
end Go.Proofs.YtabnimgpednhjabGreat.Gg
namespace Go.Proofs.YtabnimgpednhjabGreat
open Go.RowKit Go.Maps
set_option maxRecDepth 100000
def beg0 (ns : List Nd) (is : List (Int × Int)) : List Int := beginI ns is 0 (List.replicate (sel (isK ns 3) ns.length).length 0)
theorem beg0_len (ns : List Nd) (is : List (Int × Int)) : (beg0 ns is).length = (sel (isK ns 3) ns.length).length := by
 unfold beg0 beginI followL
 rw [if_pos rfl]; simp
def iniB (ns : List Nd) (is : List (Int × Int)) (k : Nat) : List Int :=
 if (fsts is).contains ((sel (isK ns 3) ns.length).getD k 0) then Gg.bitsC ((beg0 ns is).getD k 0) (wdOf ns ((sel (isK ns 3) ns.length).getD k 0)).toNat else List.replicate (wdOf ns ((sel (isK ns 3) ns.length).getD k 0)).toNat (-1)
def iniL (ns : List Nd) (is : List (Int × Int)) : Nat → List Int
 | 0 => []
 | k + 1 => iniL ns is k ++ iniB ns is k
theorem iniB_len (ns : List Nd) (is : List (Int × Int)) (k : Nat) : (iniB ns is k).length = (wdOf ns ((sel (isK ns 3) ns.length).getD k 0)).toNat := by
 unfold iniB
 split <;> simp [Gg.bitsC]
theorem beg0_bd {ns : List Nd} {is xs : List (Int × Int)} {bs hs : List Int} (h : checkE ns is xs bs hs = 0) : ∀ x ∈ beg0 ns is, 0 ≤ x ∧ x ≤ 255 := by
 obtain ⟨⟨hl, _, _⟩, hn, hp, _⟩ := check_zero h
 have hz3 : wordsE ns 3 (List.replicate (sel (isK ns 3) ns.length).length 0) = 0 := zeros_fit 3
 have hz2 : wordsE ns 2 (zeroI ns) = 0 := zeros_fit 2
 have hv := vals_isW hn hz3 hz2
 intro x hx
 unfold beg0 beginI followL at hx
 rw [if_pos rfl] at hx
 obtain ⟨s, _, rfl⟩ := List.mem_map.1 hx
 by_cases hk : (fromOf s is).toNat < ns.length
 · rw [vals_at ns _ _ hk]
   have := hv _ hk
   obtain ⟨i1, i2⟩ := isW_iff.1 this
   have hW := (nodes_ok hn).1
   have := two_bd (wdOf_bd hW ((fromOf s is).toNat : Int))
   omega
 · rw [show (vals ns (List.replicate (sel (isK ns 3) ns.length).length 0) (zeroI ns) ns.length).getD (fromOf s is).toNat 0 = 0 by rw [List.getD, List.getElem?_eq_none (by rw [vals_len]; omega)]; rfl]
   omega
end Go.Proofs.YtabnimgpednhjabGreat

namespace Go.Proofs.YtabnimgpednhjabGreat
open Go.RowKit Go.Maps
set_option maxRecDepth 100000
set_option maxHeartbeats 8000000 in
theorem begunN_any (a0 a1 a2 a3 a4 : Option Addr) (c0 c1 c2 c3 c4 : Nat) (ns : List Nd) (is xs : List (Int × Int)) (bs hs : List Int) (hck : checkE ns is xs bs hs = 0) (hli : is.length ≤ 8796093022208) (hlx : xs.length ≤ 8796093022208) (hlb : bs.length ≤ maxLen) (hlh : hs.length ≤ maxLen) (w : World)
   (hN : NodesAt w a0 ns) (hI : PairsAt w a1 is) (hX : PairsAt w a2 xs) (hBs : IntsAt w a3 bs) (hHs : IntsAt w a4 hs) :
   Calls Tryz.prog 32 #[Mv.val ⟨a0, c0, a1, is.length, c1, a2, xs.length, c2, a3, bs.length, c3, a4, hs.length, c4⟩ ns.length] w fun e w' => ∃ p cap, e = .returned (.tuple #[.slice p (iniL ns is (sel (isK ns 3) ns.length).length).length cap, .int .i64 0]) ∧ IntsAt w' p (iniL ns is (sel (isK ns 3) ns.length).length) ∧ (∀ b off, p = some ⟨b, off, none⟩ → w.heap.size ≤ b) ∧ Below w.heap.size w w' := by
 obtain ⟨⟨hl80, _, _⟩, hnn, hpp, _⟩ := check_zero hck
 have hW := (nodes_ok hnn).1
 have hB0 : Below w.heap.size w (w.alloc (.cells (Mv.cells ⟨a0, c0, a1, is.length, c1, a2, xs.length, c2, a3, bs.length, c3, a4, hs.length, c4⟩ ns.length) 35)) := bal (Below.refl _ _) _
 have HBx := hide (Box.new w ⟨a0, c0, a1, is.length, c1, a2, xs.length, c2, a3, bs.length, c3, a4, hs.length, c4⟩ ns.length)
 have HOK := hide (fun (w' : World) (hb : Below w.heap.size w w') => ofKind_any a0 c0 ns (by omega) 3 w' (hN.later hb))
 have hbg : beginE ns is xs bs hs (List.replicate (sel (isK ns 3) ns.length).length 0) = 0 := by
   unfold beginE
   rw [if_neg (by simp [hck])]
   exact zeros_fit 3
 have hsl := sel_len (isK ns 3) ns.length
 have HBE := hide (fun (w' : World) (hb : Below w.heap.size w w') (v4 : Value) (hS : SL w' v4 (List.replicate (sel (isK ns 3) ns.length).length 0)) => begin_any a0 a1 a2 a3 a4 c0 c1 c2 c3 c4 ns is xs bs hs (by omega) hli hlx hlb hlh (List.replicate (sel (isK ns 3) ns.length).length 0) (by simp [maxLen]; omega) v4 w' (hN.later hb) (hI.later hb) (hX.later hb) (hBs.later hb) (hHs.later hb) hS)
 rw [hbg] at HBE
 rw [show beginI ns is 0 (List.replicate (sel (isK ns 3) ns.length).length 0) = beg0 ns is from rfl] at HBE
 have hpin : ∀ (i : Nat) (h : i < is.length), 0 ≤ is[i].1 ∧ is[i].1 < 80 ∧ 0 ≤ is[i].2 ∧ is[i].2 < 80 := fun i hi => by
   have := pairE_zero (init_zero ((pairs_zero hpp).1 _ (List.getElem_mem hi)))
   omega
 have HPA := hide (fun (w' : World) (hb : Below w.heap.size w w') => partners_any a1 c1 is hli hpin w' (hI.later hb))
 have HBD := hide (beg0_bd hck)
 have HBL := hide (beg0_len ns is)
 have HSB : Hid (∀ k (h : k < (sel (isK ns 3) ns.length).length), 0 ≤ (sel (isK ns 3) ns.length)[k] ∧ (sel (isK ns 3) ns.length)[k] < ns.length) := fun k h => sel_bd h
 have HWD : Hid (∀ x : Int, 0 ≤ x → x < ns.length → 1 ≤ wdOf ns x ∧ wdOf ns x ≤ 8) := fun x h0 h1 => by
   have hk : x.toNat < ns.length := by omega
   have hq := firstN_zero.1 hnn x.toNat hk
   rw [nodeAtE_at hk] at hq
   obtain ⟨hw, _⟩ := node_zero hq
   unfold wdOf
   rw [List.getElem?_eq_getElem hk]
   exact hw
 have HIL : Hid (∀ k, k < (sel (isK ns 3) ns.length).length → iniL ns is (k + 1) = iniL ns is k ++ iniB ns is k ∧ iniB ns is k = if (fsts is).contains ((sel (isK ns 3) ns.length).getD k 0) then Gg.bitsC ((beg0 ns is).getD k 0) (wdOf ns ((sel (isK ns 3) ns.length).getD k 0)).toNat else List.replicate (wdOf ns ((sel (isK ns 3) ns.length).getD k 0)).toNat (-1)) := fun k _ => ⟨rfl, rfl⟩
 have HNN := hide hN
 have HI0 : Hid (iniL ns is 0 = []) := rfl
 clear hN hI hX hBs hHs hnn hpp hW hck hbg hpin
 generalize sel (isK ns 3) ns.length = S at *
 generalize beg0 ns is = Wd at *
 generalize iniL ns is = IL at *
 generalize iniB ns is = IB at *
 go_enter Tryz.func32, Tryz.ntmps32
 go_wp2_with fail
 refine (HOK.out _ hB0).mono ?_
 rintro e w1 ⟨ps, cs, rfl, hIs, hb1⟩
 have HX1 := hide (HBx.out.later hb1)
 have HB1 := hide (bthen hB0 hb1)
 have HIS := hide hIs
 clear hb1 hB0 hIs HOK HBx
 obtain ⟨w2, hmk, hrow, hb2, hlt2⟩ := Gg.make_ints S.length (by omega) w1.drew
 have hbD : Below w1.heap.size w1 w2 := (Below.refl _ w1).drew.trans (show Below w1.heap.size w1.drew w2 from hb2)
 have HSL : Hid (SL w2 (.slice (some ⟨w1.heap.size, 0, none⟩) S.length S.length) (List.replicate S.length 0)) := ⟨some ⟨w1.heap.size, 0, none⟩, S.length, by simp, fun h0 => Gg.irow_ints hrow h0, by simp, by simp [maxLen]; omega⟩
 have hbox := HX1.out
 simp only [Box] at hbox
 obtain ⟨q0, q1, q2, q3, q4⟩ := hbox
 have hbx2 := HX1.out.later hbD
 simp only [Box] at hbx2
 obtain ⟨k0, k1, k2, k3, k4⟩ := hbx2
 have HB2 := hide (bthen HB1.out hbD)
 have HIS2 := hide (HIS.out.later hbD)
 have HX2 := hide (HX1.out.later hbD)
 clear hrow hb2 HX1
 go_wp2_with fail
 go_region_held3 (fun w' => w'.cell? ⟨w.heap.size, 0, none⟩ = some (.slice a0 ns.length c0) ∧ w'.cell? ⟨w.heap.size, 1, none⟩ = some (.slice a1 is.length c1) ∧ w'.cell? ⟨w.heap.size, 2, none⟩ = some (.slice a2 xs.length c2) ∧ w'.cell? ⟨w.heap.size, 3, none⟩ = some (.slice a3 bs.length c3) ∧ w'.cell? ⟨w.heap.size, 4, none⟩ = some (.slice a4 hs.length c4))
   (first | exact ⟨cell_later hb3 k0, cell_later hb3 k1, cell_later hb3 k2, cell_later hb3 k3, cell_later hb3 k4⟩ | exact ⟨k0, k1, k2, k3, k4⟩ | exact ⟨q0, q1, q2, q3, q4⟩ | go_keep)
   ((go_at_call 53; refine (HBE.out _ HB2.out _ HSL.out).mono ?_; rintro e w3 ⟨pw, cw, lw, rfl, rfl, hIw, hb3⟩))
 rename_i hHeld
 have g0 := cell_later hb3 k0
 have g1 := cell_later hb3 k1
 have HB3 := hide (bthen HB2.out hb3)
 have HIS3 := hide (HIS2.out.later hb3)
 have HIW := hide hIw
 clear hHeld hb3 k0 k1 k2 k3 k4 q0 q1 q2 q3 q4 hmk hbD HSL HBE HIS HIS2 HB1 HB2 hlt2 hIw HX2
 go_wp2_with fail
 refine (HPA.out _ HB3.out).mono ?_
 rintro e w4 ⟨M, D, rfl, _, hown, hD, hb4⟩
 have h0 := cell_later hb4 g0
 have HO4 := hide hown
 have HD := hide hD
 have HB4 := hide (bthen HB3.out hb4)
 have HIS4 := hide (HIS3.out.later hb4)
 have HIW4 := hide (HIW.out.later hb4)
 clear hb4 hown hD g0 g1 HPA HB3 HIS3 HIW
 go_wp2_with fail
 go_loopw [8, 33] (fun v i wr => ∃ k : Nat, k ≤ S.length ∧ i = .int .i64 k ∧ Hid (wr.ownsRow w4.heap.size 3 1 v (IL k).length ((IL k).map (Value.int .i64)) ∧ (IL k).length ≤ 8 * k) ∧ Hid (Below w4.heap.size w4 wr)) (fun _ i _ => S.length - (intOf i).toNat)
 case atStart => exact ⟨0, Nat.zero_le _, rfl, by rw [HI0.out]; exact ⟨World.ownsRow_nil _ _ _ _, Nat.zero_le _⟩, Below.refl _ _⟩
 case round =>
   obtain ⟨k, hk, rfl, HOW, HR⟩ := hrel
   have hszw := HR.out.size
   by_cases hlt : k < S.length
   · have hbl := HBL.out
     have hltw : k < lw.length := by omega
     obtain ⟨sb, so, rfl, hsc⟩ := (HIS4.out.later HR.out) (by omega)
     have s0 := hsc k hlt
     obtain ⟨wb, wo, rfl, hwc⟩ := (HIW4.out.later HR.out) (by omega)
     have t0 := hwc k hltw
     obtain ⟨z0, z1⟩ := HSB.out k hlt
     obtain ⟨y0, y1⟩ := HBD.out _ (List.getElem_mem hltw)
     obtain ⟨wd0, wd1⟩ := HWD.out S[k] z0 z1
     obtain ⟨nb, no, rfl, hnc⟩ := (HNN.out.later (bthen HB4.out HR.out)) (by omega)
     have n1 := (kd_wd hnc S[k] z0 z1).2
     obtain ⟨hil, hib⟩ := HIL.out k hlt
     rw [Gg.getD_at hlt, Gg.getD_at hltw] at hib
     have j0 := cell_later HR.out h0
     have hbd : Below wr.heap.size wr wr.drew := (Below.refl _ wr).drew
     have hkl : (k : Int) < (S.length : Int) := by omega
     have hklw : (k : Int) < (lw.length : Int) := by omega
     have HCO := hide (Gg.constant_any lw[k] (wdOf ns S[k]).toNat y0 y1 (by omega) wr.drew)
     rw [show (((wdOf ns S[k]).toNat : Nat) : Int) = wdOf ns S[k] by omega] at HCO
     have HFR := hide (fun w' => Gg.free_any (wdOf ns S[k]).toNat (by omega) w')
     have HIB := hide hib
     have HILk := hide hil
     have HLN : Hid (0 ≤ S[k] ∧ S[k] ≤ 1000) := hide ⟨z0, by omega⟩
     clear hsc hwc hnc hib hil hbl
     generalize wdOf ns S[k] = wd at *
     obtain ⟨wn, rfl⟩ : ∃ wn : Nat, wd = (wn : Int) := ⟨wd.toNat, by omega⟩
     simp only [Int.toNat_natCast] at *
     generalize S[k] = s at *
     generalize lw[k] = x at *
     go_wp2_with fail
     go_region_held3 (fun w' => w'.cell? ⟨w.heap.size, 0, none⟩ = some (.slice (some ⟨nb, no, none⟩) ns.length c0) ∧ w'.cell? ⟨wb, wo + k, none⟩ = some (.int .i64 x) ∧ w'.cell? ⟨nb, no + s.toNat * 6 + 1, none⟩ = some (.int .i64 wn))
       (first | exact ⟨cell_later hbN j0, cell_later hbN t0, cell_later hbN n1⟩ | exact ⟨j0, t0, n1⟩ | go_keep)
       ((go_at_call 55; refine HCO.out.mono ?_; rintro e w5 ⟨G, rfl, hG, hrG, hb5⟩; have hbN : Below wr.heap.size wr w5 := hbd.trans (show Below wr.heap.size wr.drew w5 from hb5)))
     rename_i hHeld
     have hlook := look92 (Gg.map_below HO4.out (bthen HR.out hbN)) HD.out (x := s) HLN.out.1 HLN.out.2
     have HO5 := hide (And.intro (Gg.owns_below HOW.out.1 hbN) HOW.out.2)
     have HRG := hide (Gg.irow_ints hrG)
     have HR5 := hide (bthen HR.out hbN)
     have hs5 := hbN.size
     have hbl5 : (Gg.bitsC x wn).length = wn := by simp [Gg.bitsC]
     clear hHeld hrG hb5 hG HOW HCO hbd j0 t0 n1 s0
     generalize lastV is s = lv at *
     cases hcn : (fsts is).contains s
     · rw [hcn] at hlook HIB
       have HBt0 : Hid (IB k = List.replicate wn (-1)) := by rw [Hid, HIB.out]; rfl
       have hbl6 : (List.replicate wn (-1 : Int)).length = wn := by simp
       clear HIB hbl5 HRG
       go_wp2_with fail
       refine (HFR.out _).mono ?_
       rintro e w6 ⟨G2, rfl, hG2, hr2, hb6⟩
       have HO6 := hide (Gg.owns_below HO5.out.1 hb6)
       have HRB0 := hide (Gg.irow_ints hr2)
       have HR6 := hide (bthen HR5.out hb6)
       have hs6 := hb6.size
       clear hr2 hb6 HFR hG2
       generalize hBt : List.replicate wn (-1 : Int) = Bt at *
       have HBt : Hid (IB k = Bt) := HBt0
       have HRB := HRB0
       have h8 : Bt.length ≤ 8 := by omega
       clear HBt0 HRB0 hBt
       rw [← hbl6]
       have HQ8 := hide hbl6
       clear hbl6
       have HE : Hid (IL (k + 1) = IL k ++ Bt) := by rw [Hid, HILk.out, HBt.out]
       have hR5 := HO5.out.2
       generalize IL k = Lk at *
       go_wp2_with (at_builtin; refine Gg.wpList_append_ints rfl _ _ rfl w4.heap.size _ Lk Bt rfl HO6.out _ _ rfl HRB.out (fun h => by cases h) (by omega) (by omega) ?_)
       intro v' w7 hown7 hg7
       have HB7 := hide (HR6.out.grown hg7 (by omega) (fun j hj => (HO6.out.lt j hj).1))
       have HO7 : Hid (w7.ownsRow w4.heap.size 3 1 v' (IL (k + 1)).length ((IL (k + 1)).map (Value.int .i64)) ∧ (IL (k + 1)).length ≤ 8 * (k + 1)) := by rw [HE.out, List.map_append, List.length_append]; exact ⟨hown7, by omega⟩
       clear hown7 hg7 HO6 HRB HR6
       go_wp2_with fail
       go_roundw
       case rel => exact ⟨k + 1, by omega, by go_num, HO7, HB7⟩
       case measure => simp [intOf]; omega
     · rw [hcn] at hlook HIB
       have HBt0 : Hid (IB k = Gg.bitsC x wn) := by rw [Hid, HIB.out]; rfl
       have HO6 := hide HO5.out.1
       have HR6 := HR5
       have hs6 := hs5
       clear HIB HFR
       generalize hBt : Gg.bitsC x wn = Bt at *
       have HBt : Hid (IB k = Bt) := HBt0
       have HRB := HRG
       have h8 : Bt.length ≤ 8 := by omega
       clear HBt0 hBt HRG
       rw [← hbl5]
       have HQ8 := hide hbl5
       clear hbl5
       have HE : Hid (IL (k + 1) = IL k ++ Bt) := by rw [Hid, HILk.out, HBt.out]
       have hR5 := HO5.out.2
       generalize IL k = Lk at *
       go_wp2_with (at_builtin; refine Gg.wpList_append_ints rfl _ _ rfl w4.heap.size _ Lk Bt rfl HO6.out _ _ rfl HRB.out (fun h => by cases h) (by omega) (by omega) ?_)
       intro v' w7 hown7 hg7
       have HB7 := hide (HR6.out.grown hg7 (by omega) (fun j hj => (HO6.out.lt j hj).1))
       have HO7 : Hid (w7.ownsRow w4.heap.size 3 1 v' (IL (k + 1)).length ((IL (k + 1)).map (Value.int .i64)) ∧ (IL (k + 1)).length ≤ 8 * (k + 1)) := by rw [HE.out, List.map_append, List.length_append]; exact ⟨hown7, by omega⟩
       clear hown7 hg7 HO6 HRB HR6
       go_wp2_with fail
       go_roundw
       case rel => exact ⟨k + 1, by omega, by go_num, HO7, HB7⟩
       case measure => simp [intOf]; omega
   · obtain rfl : k = S.length := by omega
     obtain ⟨pv, cv, rfl, hiv, _⟩ := Gg.owns_ints HOW.out.1
     have HIV := hide hiv
     have HBW := hide (bthen HB4.out HR.out)
     have HFR : Hid (∀ b off, pv = some ⟨b, off, none⟩ → w.heap.size ≤ b) := fun b off h => by
       subst h
       have h1 := (HOW.out.1.lt b rfl).1
       have h2 := HB4.out.size
       omega
     clear hiv HOW
     go_wp2_with fail
     go_ret2
     exact ⟨pv, cv, rfl, fun h0 => HIV.out h0, HFR.out, HBW.out⟩
end Go.Proofs.YtabnimgpednhjabGreat
