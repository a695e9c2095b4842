/- What comes of a model: Values, and what is told ahead of it. What comes of a model: the word of each state's pair. What comes of a model: a step; what holds, and what is bad. -/
import Derived.Test.YtjhkecnnhddhbaaGreatDoorEdM
import Derived.Test.YtjhkecnnhddhbaaGreatDoorEbM
import Derived.Deep.RegionLaw
import Derived.Test.YtjhkecnnhddhbaaGreatDoorBdM
import Derived.Test.YtjhkecnnhddhbaaGreatDoorMkM
namespace Go.Proofs.YtjhkecnnhddhbaaGreatDoor.Ev
open Go.RowKit
set_option maxRecDepth 100000
def readyE (ns : List Nd) (is xs : List (Int × Int)) (bs hs sts ins : List Int) : Int :=
 if checkE ns is xs bs hs ≠ 0 then checkE ns is xs bs hs else if wordsE ns 3 sts ≠ 0 then wordsE ns 3 sts else wordsE ns 2 ins
def valsI (ns : List Nd) (e : Int) (sts ins : List Int) : List Int := if e = 0 then vals ns sts ins ns.length else []
theorem irow_ints {w : World} {g : Nat} {l : List Int} (h : IRow w g l) : IntsAt w (some ⟨g, 0, none⟩) l := fun _ => ⟨g, 0, rfl, fun i hi => by rw [Nat.zero_add]; exact (h i hi).1⟩
theorem SL.later {w w1 : World} {v : Value} {l : List Int} (h : SL w v l) (hb : Below w.heap.size w w1) : SL w1 v l := by
 obtain ⟨p, cap, hv, hI, h1, h2⟩ := h
 exact ⟨p, cap, hv, hI.later hb, h1, h2⟩
set_option maxRecDepth 100000 in
set_option maxHeartbeats 4000000 in
theorem values_any (a0 a1 a2 a3 a4 : Option Addr) (c0 c1 c2 c3 c4 : Nat) (ns : List Nd) (is xs : List (Int × Int)) (bs hs : List Int) (hln : ns.length ≤ maxLen) (hli : is.length ≤ 8796093022208) (hlx : xs.length ≤ 8796093022208) (hlb : bs.length ≤ maxLen) (hlh : hs.length ≤ maxLen)
   (sts ins : List Int) (hls : sts.length ≤ maxLen) (hlq : ins.length ≤ maxLen) (v4 v5 : Value) (w : World)
   (hN : NodesAt w a0 ns) (hI : PairsAt w a1 is) (hX : PairsAt w a2 xs) (hBs : IntsAt w a3 bs) (hHs : IntsAt w a4 hs) (hS : SL w v4 sts) (hT : SL w v5 ins) :
   Calls Tryz.prog 119 #[Mv.val ⟨a0, c0, a1, is.length, c1, a2, xs.length, c2, a3, bs.length, c3, a4, hs.length, c4⟩ ns.length, v4, v5] w fun e w' =>
     ∃ p cap l, e = .returned (.tuple #[.slice p l.length cap, .int .i64 (readyE ns is xs bs hs sts ins)]) ∧ l = valsI ns (readyE ns is xs bs hs sts ins) sts ins ∧ IntsAt w' p l ∧ Below w.heap.size w w' := by
 obtain ⟨p4, k4, rfl, hI4, h41, h42⟩ := hS
 obtain ⟨p5, k5, rfl, hI5, h51, h52⟩ := hT
 have HB0 : Hid (Below w.heap.size w (w.alloc (.cells (Mv.cells ⟨a0, c0, a1, is.length, c1, a2, xs.length, c2, a3, bs.length, c3, a4, hs.length, c4⟩ ns.length) 65))) := bal (Below.refl _ _) _
 have HBx := hide (Box.new w ⟨a0, c0, a1, is.length, c1, a2, xs.length, c2, a3, bs.length, c3, a4, hs.length, c4⟩ ns.length)
 have HK := hide (fun _ : Unit => check_any a0 a1 a2 a3 a4 c0 c1 c2 c3 c4 ns is xs bs hs hln hli hlx hlb hlh _ (hN.later HB0.out) (hI.later HB0.out) (hX.later HB0.out) (hBs.later HB0.out) (hHs.later HB0.out))
 have HCZ := hide (@check_zero ns is xs bs hs)
 have HRE : Hid (readyE ns is xs bs hs sts ins = if checkE ns is xs bs hs ≠ 0 then checkE ns is xs bs hs else if wordsE ns 3 sts ≠ 0 then wordsE ns 3 sts else wordsE ns 2 ins) := rfl
 have HFS := hide (fun (hl : ns.length ≤ 80) (hW : Wok ns) (w1 : World) (hb : Below w.heap.size w w1) => fitW_any ⟨a0, c0, a1, is.length, c1, a2, xs.length, c2, a3, bs.length, c3, a4, hs.length, c4⟩ ns hl hW 3 sts p4 k4 hls w1 (hN.later hb) (hI4.later hb))
 have HFI := hide (fun (hl : ns.length ≤ 80) (hW : Wok ns) (w1 : World) (hb : Below w.heap.size w w1) => fitW_any ⟨a0, c0, a1, is.length, c1, a2, xs.length, c2, a3, bs.length, c3, a4, hs.length, c4⟩ ns hl hW 2 ins p5 k5 hlq w1 (hN.later hb) (hI5.later hb))
 have HWD := hide (fun (hl : ns.length ≤ 80) (hn : firstN (nodeAtE ns) ns.length = 0) (hs' : wordsE ns 3 sts = 0) (hi' : wordsE ns 2 ins = 0) (w1 : World) (hb : Below w.heap.size w w1) => words_any2 ⟨a0, c0, a1, is.length, c1, a2, xs.length, c2, a3, bs.length, c3, a4, hs.length, c4⟩ ns hl hn sts ins hs' hi' (.slice p4 sts.length k4) (.slice p5 ins.length k5) w1 (hN.later hb) ⟨p4, k4, rfl, hI4.later hb, h41, h42⟩ ⟨p5, k5, rfl, hI5.later hb, h51, h52⟩)
 have HVI : Hid (∀ e : Int, e ≠ 0 → valsI ns e sts ins = []) := fun e h => by unfold valsI; rw [if_neg h]
 have HV0 : Hid (valsI ns 0 sts ins = vals ns sts ins ns.length) := by unfold valsI; rw [if_pos rfl]; rfl
 clear hN hI hX hBs hHs hI4 hI5
 generalize checkE ns is xs bs hs = ce at *
 generalize readyE ns is xs bs hs sts ins = re at *
 generalize wordsE ns 3 sts = e3 at *
 generalize wordsE ns 2 ins = e2 at *
 go_enter Tryz.func119, Tryz.ntmps119
 go_wp2_with fail
 refine (HK.out ()).mono ?_
 rintro e w1 ⟨rfl, hb1⟩
 have HB1 := hide (bthen HB0.out hb1)
 have HX1 := hide (HBx.out.later hb1)
 have hbox := HX1.out
 simp only [Box] at hbox
 obtain ⟨q0, q1, q2, q3, q4⟩ := hbox
 clear hb1 HB0 HBx HK
 by_cases hce : ce = 0
 · subst hce
   obtain ⟨⟨hl, _, _⟩, hfn, _, _⟩ := HCZ.out rfl
   have HFN := hide hfn
   have HW := hide (nodes_ok hfn).1
   clear hfn HCZ
   go_wp2_with fail
   refine (HFS.out hl HW.out _ HB1.out).mono ?_
   rintro e w2 ⟨rfl, hb2⟩
   have HB2 := hide (bthen HB1.out hb2)
   have HX2 := hide (HX1.out.later hb2)
   clear q0 q1 q2 q3 q4
   have hbox := HX2.out
   simp only [Box] at hbox
   obtain ⟨q0, q1, q2, q3, q4⟩ := hbox
   clear hb2 HB1 HX1 HFS
   by_cases he3 : e3 = 0
   · subst he3
     go_wp2_with fail
     refine (HFI.out hl HW.out _ HB2.out).mono ?_
     rintro e w3 ⟨rfl, hb3⟩
     have HB3 := hide (bthen HB2.out hb3)
     have HX3 := hide (HX2.out.later hb3)
     clear q0 q1 q2 q3 q4
     have hbox := HX3.out
     simp only [Box] at hbox
     obtain ⟨q0, q1, q2, q3, q4⟩ := hbox
     clear hb3 HB2 HX2 HFI
     by_cases he2 : e2 = 0
     · subst he2
       have HR0 : Hid (re = 0) := by rw [HRE.out]; simp [Hid]
       clear HRE
       go_wp2_with fail
       refine (HWD.out hl HFN.out (by first | rfl | trivial) (by first | rfl | trivial) _ HB3.out).mono ?_
       rintro e w4 ⟨g, rfl, hR, hb4⟩
       go_wp2
       go_ret2
       refine ⟨some ⟨g, 0, none⟩, ns.length, vals ns sts ins ns.length, ?_, ?_, irow_ints hR, bthen HB3.out hb4⟩
       · rw [HR0.out, vals_len]; rfl
       · rw [HR0.out, HV0.out]
     · have hne : (e2 != 0) = true := by simp [he2]
       have HR0 : Hid (re = e2) := by rw [HRE.out]; simp [Hid]
       have HE := hide he2
       clear HRE he2
       go_wp2
       go_ret2
       exact ⟨none, 0, [], by rw [HR0.out]; rfl, by rw [HVI.out _ (by rw [HR0.out]; exact HE.out)], fun h => by simp at h, HB3.out⟩
   · have hne : (e3 != 0) = true := by simp [he3]
     have HR0 : Hid (re = e3) := by rw [HRE.out, if_neg (by simp), if_pos he3]; rfl
     have HE := hide he3
     clear HRE he3
     go_wp2
     go_ret2
     exact ⟨none, 0, [], by rw [HR0.out]; rfl, by rw [HVI.out _ (by rw [HR0.out]; exact HE.out)], fun h => by simp at h, HB2.out⟩
 · have hne : (ce != 0) = true := by simp [hce]
   have HR0 : Hid (re = ce) := by rw [HRE.out, if_pos hce]; rfl
   have HE := hide hce
   clear HRE hce HCZ
   go_wp2
   go_ret2
   exact ⟨none, 0, [], by rw [HR0.out]; rfl, by rw [HVI.out _ (by rw [HR0.out]; exact HE.out)], fun h => by simp at h, HB1.out⟩
def fromOf (s : Int) (l : List (Int × Int)) : Int := l.foldl (fun acc p => if p.1 == s then p.2 else acc) s
theorem fromOf_take (s : Int) (l : List (Int × Int)) (k : Nat) (h : k < l.length) : fromOf s (l.take (k + 1)) = if l[k].1 == s then l[k].2 else fromOf s (l.take k) := by
 unfold fromOf
 rw [List.take_succ_eq_append_getElem h, List.foldl_append]
 rfl
theorem fromOf_in {s : Int} {l : List (Int × Int)} {n : Nat} (hs : 0 ≤ s ∧ s < n) (hl : ∀ p ∈ l, 0 ≤ p.2 ∧ p.2 < n) : 0 ≤ fromOf s l ∧ fromOf s l < n := by
 unfold fromOf
 have key : ∀ (l : List (Int × Int)) (a : Int), (∀ p ∈ l, 0 ≤ p.2 ∧ p.2 < (n : Int)) → (0 ≤ a ∧ a < n) → 0 ≤ l.foldl (fun acc p => if p.1 == s then p.2 else acc) a ∧ l.foldl (fun acc p => if p.1 == s then p.2 else acc) a < n := by
   intro l
   induction l with
   | nil => intro a _ ha; exact ha
   | cons p t ih =>
     intro a hl ha
     simp only [List.foldl_cons]
     refine ih _ (fun q hq => hl q (List.mem_cons_of_mem _ hq)) ?_
     split
     · exact hl p (List.mem_cons_self ..)
     · exact ha
 exact key l s hl hs
def followL (ns : List Nd) (l : List (Int × Int)) (vs : List Int) : List Int := (sel (isK ns 3) ns.length).map (fun s => vs.getD (fromOf s l).toNat 0)
set_option maxRecDepth 100000 in
set_option maxHeartbeats 4000000 in
theorem follow_any (m : Mv) (ns : List Nd) (hl : ns.length ≤ 80) (l : List (Int × Int)) (hll : l.length ≤ 8796093022208) (hin : ∀ p ∈ l, 0 ≤ p.2 ∧ p.2 < ns.length) (vs : List Int) (hvs : vs.length = ns.length) (pp pv : Option Addr) (cp cv : Nat) (w : World) (hN : NodesAt w m.a0 ns) (hP : PairsAt w pp l) (hV : IntsAt w pv vs) :
   Calls Tryz.prog 120 #[m.val ns.length, .slice pp l.length cp, .slice pv vs.length cv] w fun e w' =>
     ∃ p cap, e = .returned (.slice p (followL ns l vs).length cap) ∧ IntsAt w' p (followL ns l vs) ∧ Below w.heap.size w w' := by
 obtain ⟨i0, hi, hz0, hz1, hz2⟩ := info_parts info3
 obtain ⟨a0, c0, a1, l1, c1, a2, l2, c2, a3, l3, c3, a4, l4, c4⟩ := m
 simp only at hN
 have HB0 : Hid (Below w.heap.size w (w.alloc (.cells (Mv.cells ⟨a0, c0, a1, l1, c1, a2, l2, c2, a3, l3, c3, a4, l4, c4⟩ ns.length) 65))) := bal (Below.refl _ _) _
 have HK := hide (fun _ : Unit => ofKind_any a0 c0 ns (by omega) 3 _ (hN.later HB0.out))
 have HBD : Hid (∀ k (h : k < (sel (isK ns 3) ns.length).length), 0 ≤ (sel (isK ns 3) ns.length)[k] ∧ (sel (isK ns 3) ns.length)[k] < ns.length) := fun k h => sel_bd h
 have hsl := sel_len (isK ns 3) ns.length
 have HFL : Hid (followL ns l vs = (sel (isK ns 3) ns.length).map (fun s => vs.getD (fromOf s l).toNat 0)) := rfl
 have HP := hide hP
 have HV := hide hV
 have HIn := hide hin
 have HVL := hide hvs
 clear hN hP hV hin hvs
 generalize followL ns l vs = F at *
 generalize sel (isK ns 3) ns.length = S at *
 go_enter Tryz.func120, Tryz.ntmps120
 go_wp2_with fail
 refine (HK.out ()).mono ?_
 rintro e w1 ⟨q, qc, rfl, hQ, hb1⟩
 have HB1 := hide (bthen HB0.out hb1)
 have HQ := hide hQ
 clear hb1 hQ HB0 HK
 go_wp2
 go_loopw [7, 17] (fun v i wr => ∃ k : Nat, k ≤ S.length ∧ i = .int .i64 k ∧ wr.ownsRow w1.heap.size 3 1 v ((S.take k).map (fun s => vs.getD (fromOf s l).toNat 0)).length (((S.take k).map (fun s => vs.getD (fromOf s l).toNat 0)).map (Value.int .i64)) ∧ Below w1.heap.size w1 wr) (fun _ i _ => S.length - (intOf i).toNat)
 case atStart => exact ⟨0, Nat.zero_le _, rfl, World.ownsRow_nil _ _ _ _, Below.refl _ _⟩
 case round =>
 obtain ⟨k, hk, rfl, hown, hbw⟩ := hrel
 by_cases hlt : k < S.length
 · obtain ⟨b, off, rfl, hc⟩ := (HQ.out.later hbw) (by omega)
   have d0 := hc k hlt
   have hkl : (k : Int) < (S.length : Int) := by omega
   obtain ⟨s0, s1⟩ := HBD.out k hlt
   have HS : Hid ((S.take (k + 1)).map (fun s => vs.getD (fromOf s l).toNat 0) = (S.take k).map (fun s => vs.getD (fromOf s l).toNat 0) ++ [vs.getD (fromOf S[k] l).toNat 0]) := by
     rw [List.take_succ_eq_append_getElem hlt, List.map_append]; rfl
   have hlen : ((S.take k).map (fun s => vs.getD (fromOf s l).toNat 0)).length ≤ 80 := by simp; omega
   clear hc
   generalize S[k] = s at *
   generalize (S.take k).map (fun s => vs.getD (fromOf s l).toNat 0) = F0 at *
   have HFI := hide (fromOf_in (n := ns.length) ⟨s0, s1⟩ HIn.out)
   go_wp2
   go_loopw [10, 24] (fun f j wq => ∃ jj : Nat, jj ≤ l.length ∧ j = .int .i64 jj ∧ f = .int .i64 (fromOf s (l.take jj)) ∧ wq.ownsRow w1.heap.size 3 1 u7 F0.length (F0.map (Value.int .i64)) ∧ Below w1.heap.size w1 wq) (fun _ j _ => l.length - (intOf j).toNat)
   case atStart => exact ⟨0, Nat.zero_le _, rfl, rfl, hown, hbw⟩
   case round =>
     clear hown hbw
     obtain ⟨j, hj, rfl, rfl, hown, hbw⟩ := hrel
     by_cases hlt2 : j < l.length
     · obtain ⟨b2, off2, rfl, hc2⟩ := (HP.out.later (bthen HB1.out hbw)) (by omega)
       obtain ⟨e0, e1⟩ := hc2 j hlt2
       have HT := hide (fromOf_take s l j hlt2)
       have hjl : (j : Int) < (l.length : Int) := by omega
       clear hc2
       generalize l[j] = pr at *
       obtain ⟨t, y⟩ := pr
       simp only at e0 e1 HT
       cases hf : (t == s)
       · have HS2 : Hid (fromOf s (l.take (j + 1)) = fromOf s (l.take j)) := by rw [HT.out, hf]; simp [Hid]
         clear HT
         go_wp2
         go_roundw
         case rel => first | exact ⟨j + 1, by omega, by go_num, by rw [HS2.out], hown.alloc _, bal hbw _⟩ | ((repeat apply Exists.intro); exact ⟨⟨j + 1, by omega, by go_num, by rw [HS2.out], hown.alloc _, bal hbw _⟩, rfl⟩)
         case measure => simp [intOf]; omega
       · have HS2 : Hid (fromOf s (l.take (j + 1)) = y) := by rw [HT.out, hf]; simp [Hid]
         clear HT
         go_wp2
         go_roundw
         case rel => first | exact ⟨j + 1, by omega, by go_num, by rw [HS2.out], hown.alloc _, bal hbw _⟩ | ((repeat apply Exists.intro); exact ⟨⟨j + 1, by omega, by go_num, by rw [HS2.out], hown.alloc _, bal hbw _⟩, rfl⟩)
         case measure => simp [intOf]; omega
     · obtain rfl : j = l.length := by omega
       rw [List.take_length]
       obtain ⟨f0, f1⟩ := HFI.out
       have hvl := HVL.out
       obtain ⟨b3, off3, rfl, hc3⟩ := (HV.out.later (bthen HB1.out hbw)) (by omega)
       have e3 := hc3 (fromOf s l).toNat (by omega)
       rw [← getD_at] at e3
       have hsz := hbw.size
       have hfv : fromOf s l < (vs.length : Int) := by omega
       generalize vs.getD (fromOf s l).toNat 0 = wv at *
       generalize fromOf s l = f at *
       clear hc3
       have HVL2 := hide hvl
       clear hvl
       go_wp2_with (at_builtin; refine wpList_append_own _ rfl _ _ 25 rfl w1.heap.size 3 i0 (.int .i64 0) 1 8 Tryz.underlying25 hi hz0 hz1 hz2 rfl (by decide) _ _ _ rfl (hown.alloc _) ⟨wr.heap.size, 0, none⟩ 1 1 [.int .i64 wv] rfl rfl ?c1 ?c2 ?c3 ?c4 ?c5 ?_)
       case c1 =>
         intro j u hj
         match j, hj with
         | 0, hj => simp at hj; subst hj; simp [Addr.add]
       case c2 => intro u hu; simp at hu; subst hu; rfl
       case c3 => unfold maxLen; omega
       case c4 => omega
       case c5 => simp; omega
       intro v' w2 hown' hgrow _
       have R := owns_later hown hown' hgrow hbw hsz
       rw [← HS.out] at R
       clear hown' hgrow hown
       go_wp2
       go_roundw
       case rel => first | exact ⟨k + 1, by omega, by go_num, R.1, R.2⟩ | ((repeat apply Exists.intro); exact ⟨⟨k + 1, by omega, by go_num, R.1, R.2⟩, rfl⟩)
       case measure => simp [intOf]; omega
 · obtain rfl : k = S.length := by omega
   rw [List.take_length, ← HFL.out] at hown
   obtain ⟨p, cap, rfl, hJ⟩ := owns_ints hown
   go_wp2
   go_ret
   exact ⟨p, cap, rfl, hJ, bthen HB1.out hbw⟩
def badI (bs : List Int) (e : Int) (vs : List Int) : Bool := if e = 0 then bs.any (fun x => vs.getD x.toNat 0 == 1) else false
end Go.Proofs.YtjhkecnnhddhbaaGreatDoor.Ev

namespace Go.Proofs.YtjhkecnnhddhbaaGreatDoor.Ev
open Go.RowKit
set_option maxRecDepth 100000
def tgN : List Nd := [⟨1, 1, 0, 0, 0, 0⟩, ⟨3, 1, 0, 0, 0, 0⟩, ⟨4, 1, 1, 0, 0, 0⟩]
set_option maxRecDepth 100000 in
set_option maxHeartbeats 1000000 in
theorem toggle_any (w : World) :
   Calls Tryz.prog 30 #[] w fun e w' => ∃ B0 B1 B2 B3, e = .returned (Mv.val ⟨some ⟨B0, 0, none⟩, 3, some ⟨B1, 0, none⟩, 1, 1, some ⟨B2, 0, none⟩, 1, 1, some ⟨B3, 0, none⟩, 1, 1, none, 0, 0⟩ 3) ∧
     NodesAt w' (some ⟨B0, 0, none⟩) tgN ∧ PairsAt w' (some ⟨B1, 0, none⟩) [(1, 0)] ∧ PairsAt w' (some ⟨B2, 0, none⟩) [(1, 2)] ∧ IntsAt w' (some ⟨B3, 0, none⟩) [1] ∧ Below w.heap.size w w' := by
 go_enter Tryz.func30, Tryz.ntmps30
 go_wp2
 refine bodyPost_ret (v := .agg #[.slice (some ⟨w.heap.size + 1, 0, none⟩) 3 3, .slice (some ⟨w.heap.size + 1 + 1, 0, none⟩) 1 1, .slice (some ⟨w.heap.size + 1 + 1 + 1, 0, none⟩) 1 1, .slice (some ⟨w.heap.size + 1 + 1 + 1 + 1, 0, none⟩) 1 1, .slice none 0 0]) (by simp [results, Tryz.results30, go_sem]) rfl ⟨w.heap.size + 1, w.heap.size + 1 + 1, w.heap.size + 1 + 1 + 1, w.heap.size + 1 + 1 + 1 + 1, rfl, ?_, ?_, ?_, ?_, ?_⟩
 · intro _
   refine ⟨w.heap.size + 1, 0, rfl, fun i hi => ?_⟩
   match i, hi with
   | 0, _ => simp [go_sem, tgN]
   | 1, _ => simp [go_sem, tgN]
   | 2, _ => simp [go_sem, tgN]
 · intro _
   refine ⟨w.heap.size + 1 + 1, 0, rfl, fun i hi => ?_⟩
   match i, hi with
   | 0, _ => simp [go_sem]
 · intro _
   refine ⟨w.heap.size + 1 + 1 + 1, 0, rfl, fun i hi => ?_⟩
   match i, hi with
   | 0, _ => simp [go_sem]
 · intro _
   refine ⟨w.heap.size + 1 + 1 + 1 + 1, 0, rfl, fun i hi => ?_⟩
   match i, hi with
   | 0, _ => simp [go_sem]
 · exact bal (bal (bal (bal (bal (Below.refl _ _) _) _) _) _) _
end Go.Proofs.YtjhkecnnhddhbaaGreatDoor.Ev

namespace Go.Proofs.YtjhkecnnhddhbaaGreatDoor.Ev
open Go.RowKit
set_option maxRecDepth 100000
theorem make_ints (n : Nat) (hn : n ≤ 1000) : ∃ CZ : Array Value, (∀ w : World, IRow (w.alloc (.cells CZ 3)) w.heap.size (List.replicate n 0)) ∧
   ∀ w : World, (Instr.makeSlice 25 (.int .i64 (n : Int)) (.int .i64 (n : Int))).run Tryz.prog w = .ok (.slice (some ⟨w.heap.size, 0, none⟩) n n) (w.alloc (.cells CZ 3)) := by
 obtain ⟨i0, hi, hz0, hz1, hz2⟩ := info_parts info3
 refine ⟨madeCells #[.int .i64 0] n, fun w => ?_, fun w => ?_⟩
 · have r3 : (w.alloc (.cells (madeCells #[.int .i64 0] n) 3)).ownsRow w.heap.size 3 1 (.slice (some ⟨w.heap.size, 0, none⟩) n n) n (madeCells #[.int .i64 0] n).toList := World.ownsRow_lit w _ n (Nat.le_refl _) (by unfold maxLen; omega) (by rw [size_madeCells]; omega)
   intro j hj
   have hj' : j < n := by simpa using hj
   refine ⟨?_, r3.frozenAt j⟩
   rw [r3.cellAt j (by omega)]
   simp [toList_madeCells_one, hj']
 · have h := run_makeSlice (P := Tryz.prog) w 25 3 i0 (.int .i64 0) Tryz.underlying25 hi hz0 .i64 .i64 (n : Int) (n : Int) (by omega) (Int.le_refl _) (by rw [hz1]; simp; omega) (by rw [hz2]; omega) (by omega)
   rw [hz1, Nat.mul_one, Int.toNat_natCast] at h
   exact h
theorem zeros_fit {ns : List Nd} (kind : Int) : wordsE ns kind (List.replicate (sel (isK ns kind) ns.length).length 0) = 0 := by
 refine wordsE_ok (by simp) (fun k hk => ?_)
 rw [List.length_replicate] at hk
 rw [getD_at (by simpa using hk), List.getElem_replicate]
 exact isW_iff.2 ⟨by omega, two_pos _⟩
def zeroI (ns : List Nd) : List Int := List.replicate (sel (isK ns 2) ns.length).length 0
def beginE (ns : List Nd) (is xs : List (Int × Int)) (bs hs wish : List Int) : Int := if checkE ns is xs bs hs ≠ 0 then checkE ns is xs bs hs else wordsE ns 3 wish
def beginI (ns : List Nd) (is : List (Int × Int)) (e : Int) (wish : List Int) : List Int := if e = 0 then followL ns is (vals ns wish (zeroI ns) ns.length) else []
theorem ready_begin {ns : List Nd} {is xs : List (Int × Int)} {bs hs wish : List Int} (h : checkE ns is xs bs hs = 0) : readyE ns is xs bs hs wish (zeroI ns) = beginE ns is xs bs hs wish := by
 have hz := zeros_fit (ns := ns) 2
 unfold readyE beginE zeroI
 rw [hz]
 simp only [h, ne_eq, not_true_eq_false, if_false]
 by_cases h3 : wordsE ns 3 wish = 0
 · simp [h3]
 · simp [h3]
set_option maxRecDepth 100000 in
set_option maxHeartbeats 4000000 in
theorem begin_any (a0 a1 a2 a3 a4 : Option Addr) (c0 c1 c2 c3 c4 : Nat) (ns : List Nd) (is xs : List (Int × Int)) (bs hs : List Int) (hln : ns.length ≤ 2932031007402) (hli : is.length ≤ 8796093022208) (hlx : xs.length ≤ 8796093022208) (hlb : bs.length ≤ maxLen) (hlh : hs.length ≤ maxLen)
   (wish : List Int) (hls : wish.length ≤ maxLen) (v4 : Value) (w : World) (hN : NodesAt w a0 ns) (hI : PairsAt w a1 is) (hX : PairsAt w a2 xs) (hBs : IntsAt w a3 bs) (hHs : IntsAt w a4 hs) (hS : SL w v4 wish) :
   Calls Tryz.prog 90 #[Mv.val ⟨a0, c0, a1, is.length, c1, a2, xs.length, c2, a3, bs.length, c3, a4, hs.length, c4⟩ ns.length, v4] w fun e w' =>
     ∃ p cap l, e = .returned (.tuple #[.slice p l.length cap, .int .i64 (beginE ns is xs bs hs wish)]) ∧ l = beginI ns is (beginE ns is xs bs hs wish) wish ∧ IntsAt w' p l ∧ Below w.heap.size w w' := by
 have hlm : ns.length ≤ maxLen := by unfold maxLen; omega
 have HB0 : Hid (Below w.heap.size w (w.alloc (.cells (Mv.cells ⟨a0, c0, a1, is.length, c1, a2, xs.length, c2, a3, bs.length, c3, a4, hs.length, c4⟩ ns.length) 65))) := bal (Below.refl _ _) _
 have HBx := hide (Box.new w ⟨a0, c0, a1, is.length, c1, a2, xs.length, c2, a3, bs.length, c3, a4, hs.length, c4⟩ ns.length)
 have HK := hide (fun _ : Unit => inputs_any a0 a1 a2 a3 a4 c0 c1 c2 c3 c4 ns is xs bs hs hln hli hlx hlb hlh _ (hN.later HB0.out) (hI.later HB0.out) (hX.later HB0.out) (hBs.later HB0.out) (hHs.later HB0.out))
 have HVA := hide (fun (v5 : Value) (w1 : World) (hb : Below w.heap.size w w1) (hT : SL w1 v5 (zeroI ns)) (hq : (zeroI ns).length ≤ maxLen) => values_any a0 a1 a2 a3 a4 c0 c1 c2 c3 c4 ns is xs bs hs hlm hli hlx hlb hlh wish (zeroI ns) hls hq v4 v5 w1 (hN.later hb) (hI.later hb) (hX.later hb) (hBs.later hb) (hHs.later hb) (hS.later hb) hT)
 have HFO := hide (fun (hl : ns.length ≤ 80) (hin : ∀ p ∈ is, 0 ≤ p.2 ∧ p.2 < (ns.length : Int)) (vs : List Int) (hvs : vs.length = ns.length) (pv : Option Addr) (cv : Nat) (w1 : World) (hb : Below w.heap.size w w1) (hV : IntsAt w1 pv vs) => follow_any ⟨a0, c0, a1, is.length, c1, a2, xs.length, c2, a3, bs.length, c3, a4, hs.length, c4⟩ ns hl is hli hin vs hvs a1 pv c1 cv w1 (hN.later hb) (hI.later hb) hV)
 have HRB := hide (@ready_begin ns is xs bs hs wish)
 have HCZ := hide (@check_zero ns is xs bs hs)
 have HBE : Hid (checkE ns is xs bs hs ≠ 0 → beginE ns is xs bs hs wish = checkE ns is xs bs hs) := fun h => by unfold beginE; rw [if_pos h]
 have HV0 : Hid (valsI ns 0 wish (zeroI ns) = vals ns wish (zeroI ns) ns.length) := by unfold valsI; rw [if_pos rfl]; rfl
 have HN0 : Hid (beginI ns is 0 wish = followL ns is (vals ns wish (zeroI ns) ns.length)) := by unfold beginI; rw [if_pos rfl]; rfl
 have HNE : Hid (∀ e : Int, e ≠ 0 → beginI ns is e wish = []) := fun e h => by unfold beginI; rw [if_neg h]
 have HZL : Hid (zeroI ns = List.replicate (sel (isK ns 2) ns.length).length 0) := rfl
 have hsl2 := sel_len (isK ns 2) ns.length
 clear hN hI hX hBs hHs hS
 generalize beginE ns is xs bs hs wish = be at *
 generalize checkE ns is xs bs hs = ce at *
 generalize readyE ns is xs bs hs wish (zeroI ns) = re at *
 go_enter Tryz.func90, Tryz.ntmps90
 go_wp2_with fail
 refine (HK.out ()).mono ?_
 rintro e w1 ⟨p1, k1, l, rfl, hl1, hJ1, hb1⟩
 have HB1 := hide (bthen HB0.out hb1)
 have HX1 := hide (HBx.out.later hb1)
 have HL1 := hide hl1
 have hbox := HX1.out
 simp only [Box] at hbox
 obtain ⟨q0, q1, q2, q3, q4⟩ := hbox
 clear hb1 HB0 HBx hJ1 HK hl1
 by_cases hce : ce = 0
 · subst hce
   obtain ⟨⟨hl, _, _⟩, _, hps, _⟩ := HCZ.out rfl
   have HPI : Hid (∀ p ∈ is, 0 ≤ p.2 ∧ p.2 < (ns.length : Int)) := fun p hp => (pairE_zero (init_zero ((pairs_zero hps).1 p hp))).2.1
   have HRE := hide (HRB.out rfl)
   have HLl : Hid (l = sel (isK ns 2) ns.length) := by have := HL1.out; rw [if_pos rfl] at this; exact this
   rw [← HLl.out] at HZL
   have hll : l.length ≤ 80 := by rw [HLl.out]; omega
   clear HRB HCZ HBE hps HL1 HLl hsl2
   obtain ⟨CZ, hCZ, hmk⟩ := make_ints l.length (by omega)
   have HCZI := hide (hCZ w1.drew)
   have hbM : Below w1.heap.size w1 (w1.drew.alloc (.cells CZ 3)) := bal (Below.refl _ _).drew _
   clear hCZ
   go_wp2
   go_region_held3 (fun w' => w'.cell? ⟨w.heap.size, 0, none⟩ = some (.slice a0 ns.length c0) ∧ w'.cell? ⟨w.heap.size, 1, none⟩ = some (.slice a1 is.length c1) ∧ w'.cell? ⟨w.heap.size, 2, none⟩ = some (.slice a2 xs.length c2) ∧ w'.cell? ⟨w.heap.size, 3, none⟩ = some (.slice a3 bs.length c3) ∧ w'.cell? ⟨w.heap.size, 4, none⟩ = some (.slice a4 hs.length c4))
     (first | exact ⟨q0, q1, q2, q3, q4⟩ | exact ⟨cell_later hbM q0, cell_later hbM q1, cell_later hbM q2, cell_later hbM q3, cell_later hbM q4⟩ | exact ⟨cell_later hbV (cell_later hbM q0), cell_later hbV (cell_later hbM q1), cell_later hbV (cell_later hbM q2), cell_later hbV (cell_later hbM q3), cell_later hbV (cell_later hbM q4)⟩ | go_keep)
     ((go_at_call 119; refine (HVA.out _ _ (bthen HB1.out hbM) ⟨_, _, by rw [HZL.out, List.length_replicate], by rw [HZL.out]; exact irow_ints HCZI.out, by rw [HZL.out, List.length_replicate]; omega, by unfold maxLen; omega⟩ (by rw [HZL.out, List.length_replicate]; unfold maxLen; omega)).mono ?_; rintro e wV ⟨pV, kV, lV, rfl, hlV, hJV, hbV⟩; have HLV := hide hlV; have HJV := hide hJV; clear hlV hJV))
   have HB2 := hide (bthen (bthen HB1.out hbM) hbV)
   have z0 := cell_later hbV (cell_later hbM q0)
   have z1 := cell_later hbV (cell_later hbM q1)
   have z2 := cell_later hbV (cell_later hbM q2)
   have z3 := cell_later hbV (cell_later hbM q3)
   have z4 := cell_later hbV (cell_later hbM q4)
   clear hbM hbV q0 q1 q2 q3 q4 HCZI hmk HX1 HB1 HVA
   by_cases hre : re = 0
   · subst hre
     have HLv : Hid (lV = vals ns wish (zeroI ns) ns.length) := HLV.out.trans HV0.out
     have HLen : Hid (lV.length = ns.length) := by rw [HLv.out, vals_len]; rfl
     rw [← HLv.out] at HN0
     have HF := hide (fun _ : Unit => HFO.out hl HPI.out lV HLen.out pV kV wV HB2.out HJV.out)
     clear HFO
     go_wp2_with fail
     refine (HF.out ()).mono ?_
     rintro e w2 ⟨p2, k2, rfl, hJ2, hb2⟩
     go_wp2
     go_ret2
     exact ⟨p2, k2, followL ns is lV, by rw [← HRE.out]; rfl, by rw [← HRE.out]; exact HN0.out.symm, hJ2, bthen HB2.out hb2⟩
   · have hne : (re != 0) = true := by simp [hre]
     have HE := hide (HNE.out re hre)
     clear hre HFO
     go_wp2
     go_ret2
     exact ⟨none, 0, [], by rw [← HRE.out]; rfl, by rw [← HRE.out]; exact HE.out.symm, fun h => by simp at h, HB2.out⟩
 · have hne : (ce != 0) = true := by simp [hce]
   have HE := hide (HBE.out hce)
   have HEn := hide hce
   clear hce HRB HCZ HBE HFO HVA
   go_wp2
   go_ret2
   exact ⟨none, 0, [], by rw [HE.out]; rfl, by rw [HNE.out _ (by rw [HE.out]; exact HEn.out)], fun h => by simp at h, HB1.out⟩
end Go.Proofs.YtjhkecnnhddhbaaGreatDoor.Ev

namespace Go.Proofs.YtjhkecnnhddhbaaGreatDoor.Ev
open Go.RowKit Go.Maps
set_option maxRecDepth 100000
theorem tg_sel : sel (isK tgN 3) tgN.length = [1] := by decide
theorem tg_sel2 : sel (isK tgN 2) tgN.length = [] := by decide
theorem tg_chk : checkE tgN [(1, 0)] [(1, 2)] [1] [] = 0 := by decide
theorem tg_beg : beginE tgN [(1, 0)] [(1, 2)] [1] [] [0] = 0 := by decide
theorem tg_beI : beginI tgN [(1, 0)] 0 [0] = [0] := by decide
theorem tg_bits : Go.Proofs.YtjhkecnnhddhbaaGreatDoor.bitsC 0 1 = [0] := by decide
abbrev tgM (B0 B1 B2 B3 : Nat) : Mv := ⟨some ⟨B0, 0, none⟩, 3, some ⟨B1, 0, none⟩, 1, 1, some ⟨B2, 0, none⟩, 1, 1, some ⟨B3, 0, none⟩, 1, 1, none, 0, 0⟩
structure TgAt (w : World) (B0 B1 B2 B3 : Nat) : Prop where
 n : NodesAt w (some ⟨B0, 0, none⟩) tgN
 i : PairsAt w (some ⟨B1, 0, none⟩) [(1, 0)]
 x : PairsAt w (some ⟨B2, 0, none⟩) [(1, 2)]
 b : IntsAt w (some ⟨B3, 0, none⟩) [1]
theorem TgAt.later {w w1 : World} {B0 B1 B2 B3 : Nat} (h : TgAt w B0 B1 B2 B3) (hb : Below w.heap.size w w1) : TgAt w1 B0 B1 B2 B3 := ⟨h.n.later hb, h.i.later hb, h.x.later hb, h.b.later hb⟩
theorem pairs_in {l : List (Int × Int)} (h : l.all (fun p => decide (0 ≤ p.1 ∧ p.1 < 80 ∧ 0 ≤ p.2 ∧ p.2 < 80)) = true) : ∀ (i : Nat) (hi : i < l.length), 0 ≤ l[i].1 ∧ l[i].1 < 80 ∧ 0 ≤ l[i].2 ∧ l[i].2 < 80 := fun i hi => by
 have := List.all_eq_true.1 h _ (List.getElem_mem hi)
 simpa using this
theorem look92 {w : World} {M n : Nat} {D : DataW Unit} {l : List (Int × Int)} (h : w.ownsMap Tryz.prog 3 (plainElem (H := Unit) Tryz.prog 3) M n D) (hD : PartIs l D) {x : Int} (hx : 0 ≤ x) (hx2 : x ≤ 1000) :
   (Instr.lookup 127 (.map (some M)) (.int .i64 x) true).run Tryz.prog w = .ok (.tuple #[.int .i64 (lastV l x), .bool ((fsts l).contains x)]) w := by
 have hkey : keyOf Tryz.prog 3 (.int .i64 x) = some (.int .i64 x) := keyOf_int_mk Tryz.underlying3 (WalkArith.wf_i64 (by omega))
 obtain ⟨v, ps, h1, h2⟩ := World.ownsMap.look_ok h law3 Tryz.underlying127 (zero3 _) (plainElem_int Tryz.underlying3 (a := 0) (by decide)) hkey
 obtain ⟨c, rfl, hc, _⟩ := plainElem_int_inv Tryz.underlying3 h2
 simp only [Prod.mk.injEq] at hc
 have hcy : lastV l x = c := lit_inj ((hD.at' x).symm.trans hc.1)
 rw [h1, hcy, hD.has x]
set_option maxHeartbeats 4000000 in
theorem begunT_any (B0 B1 B2 B3 : Nat) (w : World) (hT : TgAt w B0 B1 B2 B3) :
   Calls Tryz.prog 74 #[Mv.val (tgM B0 B1 B2 B3) 3] w fun e w' => ∃ p cap, e = .returned (.tuple #[.slice p 1 cap, .int .i64 0]) ∧ IntsAt w' p [0] ∧ (∀ b off, p = some ⟨b, off, none⟩ → w.heap.size ≤ b) ∧ Below w.heap.size w w' := by
 have hB0 : Below w.heap.size w (w.alloc (.cells (Mv.cells (tgM B0 B1 B2 B3) 3) 65)) := bal (Below.refl _ _) _
 have HT := hide hT
 have HOK := hide (fun (w' : World) (hb : Below w.heap.size w w') => ofKind_any (some ⟨B0, 0, none⟩) 3 tgN (by decide) 3 w' (hT.n.later hb))
 rw [tg_sel] at HOK
 have HBE := hide (fun (w' : World) (hb : Below w.heap.size w w') (v4 : Value) (hS : SL w' v4 [0]) => begin_any (some ⟨B0, 0, none⟩) (some ⟨B1, 0, none⟩) (some ⟨B2, 0, none⟩) (some ⟨B3, 0, none⟩) none 3 1 1 1 0 tgN [(1, 0)] [(1, 2)] [1] [] (by decide) (by decide) (by decide) (by simp [maxLen]) (by simp [maxLen]) [0] (by simp [maxLen]) v4 w' (hT.n.later hb) (hT.i.later hb) (hT.x.later hb) (hT.b.later hb) (fun h => by simp at h) hS)
 rw [tg_beg, tg_beI] at HBE
 have HPA := hide (fun (w' : World) (hb : Below w.heap.size w w') => partners_any (some ⟨B1, 0, none⟩) 1 [(1, 0)] (by decide) (pairs_in (by decide)) w' (hT.i.later hb))
 clear hT
 go_enter Tryz.func74, Tryz.ntmps74
 go_wp2_with fail
 refine (HOK.out _ hB0).mono ?_
 rintro e w1 ⟨ps, cs, rfl, hIs, hb1⟩
 have q0 := cell_later hb1 (a := ⟨w.heap.size, 0, none⟩) (v := .slice (some ⟨B0, 0, none⟩) 3 3) (by simp [go_sem])
 have q1 := cell_later hb1 (a := ⟨w.heap.size, 1, none⟩) (v := .slice (some ⟨B1, 0, none⟩) 1 1) (by simp [go_sem])
 have q2 := cell_later hb1 (a := ⟨w.heap.size, 2, none⟩) (v := .slice (some ⟨B2, 0, none⟩) 1 1) (by simp [go_sem])
 have q3 := cell_later hb1 (a := ⟨w.heap.size, 3, none⟩) (v := .slice (some ⟨B3, 0, none⟩) 1 1) (by simp [go_sem])
 have q4 := cell_later hb1 (a := ⟨w.heap.size, 4, none⟩) (v := .slice none 0 0) (by simp [go_sem])
 have HB1 := hide (bthen hB0 hb1)
 have HIS := hide hIs
 clear hb1 hB0 hIs HOK
 obtain ⟨w2, hmk, hrow, hb2, hlt2⟩ := Go.Proofs.YtjhkecnnhddhbaaGreatDoor.make_ints 1 (by decide) w1.drew
 have hmk' : (Instr.makeSlice 25 (.int .i64 1) (.int .i64 1)).run Tryz.prog w1.drew = .ok (.slice (some ⟨w1.drew.heap.size, 0, none⟩) 1 1) w2 := hmk
 have hbD : Below w1.heap.size w1 w2 := (Below.refl _ w1).drew.trans (show Below w1.heap.size w1.drew w2 from hb2)
 have HSL : Hid (SL w2 (.slice (some ⟨w1.heap.size, 0, none⟩) 1 1) [0]) := ⟨_, _, rfl, Go.Proofs.YtjhkecnnhddhbaaGreatDoor.irow_ints hrow, by simp, by simp [maxLen]⟩
 have k0 := cell_later hbD q0
 have k1 := cell_later hbD q1
 have k2 := cell_later hbD q2
 have k3 := cell_later hbD q3
 have k4 := cell_later hbD q4
 have HB2 := hide (bthen HB1.out hbD)
 have HIS2 := hide (HIS.out.later hbD)
 clear hmk hrow hb2
 go_wp2
 go_region_held3 (fun w' => w'.cell? ⟨w.heap.size, 0, none⟩ = some (.slice (some ⟨B0, 0, none⟩) 3 3) ∧ w'.cell? ⟨w.heap.size, 1, none⟩ = some (.slice (some ⟨B1, 0, none⟩) 1 1) ∧ w'.cell? ⟨w.heap.size, 2, none⟩ = some (.slice (some ⟨B2, 0, none⟩) 1 1) ∧ w'.cell? ⟨w.heap.size, 3, none⟩ = some (.slice (some ⟨B3, 0, none⟩) 1 1) ∧ w'.cell? ⟨w.heap.size, 4, none⟩ = some (.slice none 0 0))
   (first | exact ⟨cell_later hb3 k0, cell_later hb3 k1, cell_later hb3 k2, cell_later hb3 k3, cell_later hb3 k4⟩ | exact ⟨k0, k1, k2, k3, k4⟩ | go_keep)
   ((go_at_call 90; refine (HBE.out _ HB2.out _ HSL.out).mono ?_; rintro e w3 ⟨pw, cw, lw, rfl, rfl, hIw, hb3⟩))
 rename_i hHeld
 have g0 := cell_later hb3 k0
 have g1 := cell_later hb3 k1
 have HB3 := hide (bthen HB2.out hb3)
 have HIS3 := hide (HIS2.out.later hb3)
 have HIW := hide hIw
 clear hHeld hb3 k0 k1 k2 k3 k4 q0 q1 q2 q3 q4 hmk' hbD HSL HBE HIS HIS2 HB1 HB2 hlt2 hIw
 go_wp2_with fail
 refine (HPA.out _ HB3.out).mono ?_
 rintro e w4 ⟨M, D, rfl, _, hown, hD, hb4⟩
 have h0 := cell_later hb4 g0
 have HO4 := hide hown
 have HD := hide hD
 have HB4 := hide (bthen HB3.out hb4)
 have HIS4 := hide (HIS3.out.later hb4)
 have HIW4 := hide (HIW.out.later hb4)
 clear hb4 hown hD g0 g1 HPA HB3 HIS3 HIW
 go_wp2
 go_loopw [8, 33] (fun v i wr => ∃ k : Nat, k ≤ 1 ∧ i = .int .i64 k ∧ Hid (wr.ownsRow w4.heap.size 3 1 v (List.replicate k (0 : Int)).length ((List.replicate k (0 : Int)).map (Value.int .i64))) ∧ Hid (Below w4.heap.size w4 wr)) (fun _ i _ => 1 - (intOf i).toNat)
 case atStart => exact ⟨0, Nat.zero_le _, rfl, World.ownsRow_nil _ _ _ _, Below.refl _ _⟩
 case round =>
   obtain ⟨k, hk, rfl, HOW, HR⟩ := hrel
   have hszw := HR.out.size
   by_cases hlt : k < 1
   · obtain rfl : k = 0 := by omega
     obtain ⟨sb, so, rfl, hsc⟩ := (HIS4.out.later HR.out) (by simp)
     have s0 := hsc 0 (by simp)
     obtain ⟨wb, wo, rfl, hwc⟩ := (HIW4.out.later HR.out) (by simp)
     have t0 := hwc 0 (by simp)
     obtain ⟨nb, no, hne, hnc⟩ := (HT.out.n.later (bthen HB4.out HR.out)) (by decide)
     cases hne
     have n1 := (hnc 1 (by decide)).2.1
     simp [tgN] at n1 s0 t0
     have j0 := cell_later HR.out h0
     clear hsc hwc hnc
     have hbd : Below wr.heap.size wr wr.drew := (Below.refl _ wr).drew
     have HCO := hide (Go.Proofs.YtjhkecnnhddhbaaGreatDoor.constant_any 0 1 (by decide) (by decide) (by decide) wr.drew)
     rw [tg_bits] at HCO
     have HCO2 : Hid (Calls Tryz.prog 92 #[.int .i64 0, .int .i64 1] wr.drew fun e w' => ∃ G, e = .returned (.slice (some ⟨G, 0, none⟩) 1 1) ∧ wr.drew.heap.size ≤ G ∧ Go.Proofs.YtjhkecnnhddhbaaGreatDoor.IRow w' G [0] ∧ Below wr.drew.heap.size wr.drew w') := HCO.out
     have HOW0 : Hid (wr.ownsRow w4.heap.size 3 1 u8 ([] : List Int).length (([] : List Int).map (Value.int .i64))) := HOW.out
     obtain ⟨pv, cv, rfl, _, _⟩ := Go.Proofs.YtjhkecnnhddhbaaGreatDoor.owns_ints HOW0.out
     clear HCO HOW
     go_wp2
     go_region_held3 (fun w' => w'.cell? ⟨w.heap.size, 0, none⟩ = some (.slice (some ⟨B0, 0, none⟩) 3 3) ∧ w'.cell? ⟨wb, wo, none⟩ = some (.int .i64 0) ∧ w'.cell? ⟨B0, 7, none⟩ = some (.int .i64 1))
       (first | exact ⟨cell_later hbN j0, cell_later hbN t0, cell_later hbN n1⟩ | go_keep)
       ((go_at_call 92; refine HCO2.out.mono ?_; rintro e w5 ⟨G, rfl, hG, hrG, hb5⟩; have hbN : Below wr.heap.size wr w5 := hbd.trans (show Below wr.heap.size wr.drew w5 from hb5)))
     rename_i hHeld
     have hlook := look92 (Go.Proofs.YtjhkecnnhddhbaaGreatDoor.map_below HO4.out (bthen HR.out hbN)) HD.out (x := 1) (by decide) (by decide)
     have hl0 : lastV [(1, 0)] 1 = 0 := by decide
     have hc0 : (fsts [(1, 0)]).contains 1 = true := by decide
     rw [hl0, hc0] at hlook
     have HO5 := hide (Go.Proofs.YtjhkecnnhddhbaaGreatDoor.owns_below HOW0.out hbN)
     have HRG := hide (Go.Proofs.YtjhkecnnhddhbaaGreatDoor.irow_ints hrG)
     have HR5 := hide (bthen HR.out hbN)
     have hs5 := hbN.size
     clear hHeld hl0 hc0 hrG hb5 hbN hG HOW0 HCO2 hbd j0 t0 n1 s0
     go_wp2_with (at_builtin; refine Go.Proofs.YtjhkecnnhddhbaaGreatDoor.wpList_append_ints rfl _ _ rfl w4.heap.size _ [] [0] rfl HO5.out _ _ rfl HRG.out (fun h => by cases h) (by simp) (by omega) ?_)
     intro v' w6 hown6 hg6
     have HB6 := hide (HR5.out.grown hg6 (by omega) (fun j hj => (HO5.out.lt j hj).1))
     have HO6 : Hid (w6.ownsRow w4.heap.size 3 1 v' (List.replicate 1 (0 : Int)).length ((List.replicate 1 (0 : Int)).map (Value.int .i64))) := hown6
     clear hown6 hg6
     go_wp2
     go_roundw
     case rel => exact ⟨1, by omega, by go_num, HO6, HB6⟩
     case measure => simp [intOf]
   · obtain rfl : k = 1 := by omega
     obtain ⟨pv, cv, rfl, hiv, _⟩ := Go.Proofs.YtjhkecnnhddhbaaGreatDoor.owns_ints HOW.out
     have HIV := hide hiv
     have HBW := hide (bthen HB4.out HR.out)
     have HFR : Hid (∀ b off, pv = some ⟨b, off, none⟩ → w.heap.size ≤ b) := fun b off h => by
       subst h
       have h1 := (HOW.out.lt b rfl).1
       have h2 := HB4.out.size
       omega
     clear hiv
     go_wp2
     go_ret2
     exact ⟨pv, cv, rfl, HIV.out, HFR.out, HBW.out⟩
end Go.Proofs.YtjhkecnnhddhbaaGreatDoor.Ev

namespace Go.Proofs.YtjhkecnnhddhbaaGreatDoor.Ev
open Go.RowKit Go.Maps
set_option maxRecDepth 100000
def slD (b o n c : Nat) : DataW Unit := .agg [.lit (.int .i64 b), .lit (.int .i64 o), .lit (.int .i64 n), .lit (.int .i64 c)]
def slR : Value → Option (DataW Unit × List MemPlace)
 | .slice (some ⟨b, o, none⟩) n c => some (slD b o n c, [])
 | .slice none 0 0 => some (.nil, [])
 | _ => none
theorem slR_some (b o n c : Nat) : slR (.slice (some ⟨b, o, none⟩) n c) = some (slD b o n c, []) := rfl
theorem slR_nil : slR (.slice none 0 0) = some (.nil, []) := rfl
theorem slD_inj {b o n c b' o' n' c' : Nat} (h : slD b o n c = slD b' o' n' c') : b = b' ∧ o = o' ∧ n = n' ∧ c = c' := by
 unfold slD at h
 simp at h
 omega
theorem slR_inv {v : Value} {b o n c : Nat} {ps : List MemPlace} (h : slR v = some (slD b o n c, ps)) : v = .slice (some ⟨b, o, none⟩) n c := by
 unfold slR at h
 split at h
 · injection h with h
   obtain ⟨h1, _⟩ := Prod.mk.inj h
   obtain ⟨rfl, rfl, rfl, rfl⟩ := slD_inj h1
   rfl
 · injection h with h
   obtain ⟨h1, _⟩ := Prod.mk.inj h
   unfold slD at h1
   cases h1
 · cases h
theorem slR_inv_nil {v : Value} {ps : List MemPlace} (h : slR v = some (.nil, ps)) : v = .slice none 0 0 := by
 unfold slR at h
 split at h
 · injection h with h
   obtain ⟨h1, _⟩ := Prod.mk.inj h
   unfold slD at h1
   cases h1
 · rfl
 · cases h
theorem zero25 (w : World) : (zeroValue 25).run Tryz.prog w = .ok (.slice none 0 0) w := by kernel_rfl
theorem look70_yes {w : World} {M n : Nat} {D : DataW Unit} (h : w.ownsMap Tryz.prog 3 slR M n D) {x : Int} (hx : 0 ≤ x) (hx2 : x ≤ 1000) {b o m c : Nat} (hh : Maps.has D (.int .i64 x) = true) (ha : D.atKey (.int .i64 x) .nil = slD b o m c) :
   (Instr.lookup 110 (.map (some M)) (.int .i64 x) true).run Tryz.prog w = .ok (.tuple #[.slice (some ⟨b, o, none⟩) m c, .bool true]) w := by
 have hkey : keyOf Tryz.prog 3 (.int .i64 x) = some (.int .i64 x) := keyOf_int_mk Tryz.underlying3 (WalkArith.wf_i64 (by omega))
 obtain ⟨v, ps, h1, h2⟩ := World.ownsMap.look_ok h law3 Tryz.underlying110 (zero25 _) slR_nil hkey
 rw [ha] at h2
 rw [h1, hh, slR_inv h2]
theorem look70_no {w : World} {M n : Nat} {D : DataW Unit} (h : w.ownsMap Tryz.prog 3 slR M n D) {x : Int} (hx : 0 ≤ x) (hx2 : x ≤ 1000) (hh : Maps.has D (.int .i64 x) = false) (ha : D.atKey (.int .i64 x) .nil = .nil) :
   (Instr.lookup 110 (.map (some M)) (.int .i64 x) true).run Tryz.prog w = .ok (.tuple #[.slice none 0 0, .bool false]) w := by
 have hkey : keyOf Tryz.prog 3 (.int .i64 x) = some (.int .i64 x) := keyOf_int_mk Tryz.underlying3 (WalkArith.wf_i64 (by omega))
 obtain ⟨v, ps, h1, h2⟩ := World.ownsMap.look_ok h law3 Tryz.underlying110 (zero25 _) slR_nil hkey
 rw [ha] at h2
 rw [h1, hh, slR_inv_nil h2]
theorem put70 {w : World} {M n : Nat} {D : DataW Unit} (h : w.ownsMap Tryz.prog 3 slR M n D) (hn : n < 1000000) {x : Int} (hx : 0 ≤ x) (hx2 : x ≤ 1000) (b o m c : Nat) :
   ∃ w', (Instr.mapUpdate 110 (.map (some M)) (.int .i64 x) (.slice (some ⟨b, o, none⟩) m c)).run Tryz.prog w = .ok () w' ∧ w'.ownsMap Tryz.prog 3 slR M (n + 1) (D.put (.int .i64 x) (slD b o m c)) ∧ w.grownBy w' (some M) :=
 h.update law3 Tryz.underlying110 (by unfold maxLen; omega) (keyOf_int_mk Tryz.underlying3 (WalkArith.wf_i64 (by omega))) (slR_some b o m c)
end Go.Proofs.YtjhkecnnhddhbaaGreatDoor.Ev

namespace Go.Proofs.YtjhkecnnhddhbaaGreatDoor.Ev
open Go.RowKit Go.Maps
set_option maxRecDepth 100000
set_option maxHeartbeats 2000000 in
theorem operateNot_any (wd xa xb xc xn : Int) (l : List Int) (p : Option Addr) (cap : Nat) (py pz : Option Addr) (ly lz cy cz : Nat) (pb : Option Addr) (hl : ∀ x ∈ l, 0 ≤ x ∧ x ≤ 10000000) (hn : l.length ≤ 1000) (w : World) (hI : Go.Proofs.YtjhkecnnhddhbaaGreatDoor.IntsAt w p l) :
   Calls Tryz.prog 124 #[.pointer pb, .agg #[.int .i64 4, .int .i64 wd, .int .i64 xa, .int .i64 xb, .int .i64 xc, .int .i64 xn], .slice p l.length cap, .slice py ly cy, .slice pz lz cz] w fun e w' => ∃ G, e = .returned (.slice (some ⟨G, 0, none⟩) l.length l.length) ∧ w.heap.size ≤ G ∧ Go.Proofs.YtjhkecnnhddhbaaGreatDoor.IRow w' G (l.map Go.Proofs.YtjhkecnnhddhbaaGreatDoor.turn) ∧ Below w.heap.size w w' := by
 have HT := hide (fun (w' : World) (hb : Below w.heap.size w w') => Go.Proofs.YtjhkecnnhddhbaaGreatDoor.turnedB_any l p cap hl hn w' (hI.later hb))
 clear hl hI
 go_enter Tryz.func124, Tryz.ntmps124
 go_wp2_with fail
 refine (HT.out _ (bal (bal (bal (bal (bal (Below.refl _ _) _) _) _) _) _)).mono ?_
 rintro e w1 ⟨G, rfl, hG, hr, hb⟩
 have hG2 : w.heap.size ≤ G := by simp at hG; omega
 have HR := hide hr
 have HB := hide (bthen (bal (bal (bal (bal (bal (Below.refl w.heap.size w) _) _) _) _) _) hb)
 clear hr hb hG HT
 go_wp2
 go_ret
 exact ⟨G, rfl, hG2, HR.out, HB.out⟩
end Go.Proofs.YtjhkecnnhddhbaaGreatDoor.Ev

namespace Go.Proofs.YtjhkecnnhddhbaaGreatDoor.Ev
open Go.RowKit Go.Maps
set_option maxRecDepth 100000
theorem map_block {w w1 : World} {M n : Nat} {D : DataW Unit} {R : Value → Option (DataW Unit × List MemPlace)} (h : w.ownsMap Tryz.prog 3 R M n D) (hb : w1.heap[M]? = w.heap[M]?) : w1.ownsMap Tryz.prog 3 R M n D := by
 obtain ⟨es, clock, hh, hr⟩ := h
 exact ⟨es, clock, by rw [hb]; exact hh, hr⟩
theorem nextIn_any (Bi : Nat) (w : World) (base : Nat) (hb : base ≤ Bi) (hB : base ≤ w.heap.size) (c0 : w.cell? ⟨Bi, 0, none⟩ = some (.int .i64 0)) (f0 : w.frozen? ⟨Bi, 0, none⟩ = false) :
   Calls Tryz.prog 93 #[.int .i64 1, .func (.func 95) #[] #[.pointer (some ⟨Bi, 0, none⟩)]] w fun e w' => ∃ G, e = .returned (.slice (some ⟨G, 0, none⟩) 1 1) ∧ w.heap.size ≤ G ∧ Go.Proofs.YtjhkecnnhddhbaaGreatDoor.IRow w' G [2] ∧ w'.cell? ⟨Bi, 0, none⟩ = some (.int .i64 1) ∧ w'.frozen? ⟨Bi, 0, none⟩ = false ∧ Below base w w' ∧ ∀ g, ¬ g = Bi → g < w.heap.size → w'.heap[g]? = w.heap[g]? := by
 have h := Go.Proofs.YtjhkecnnhddhbaaGreatDoor.made_any 95 (.pointer (some ⟨Bi, 0, none⟩)) (fun k => 2 * ((k : Int) + 1)) 1 base (by omega) (fun g => g = Bi) (fun k wr => wr.cell? ⟨Bi, 0, none⟩ = some (.int .i64 (k : Int)) ∧ wr.frozen? ⟨Bi, 0, none⟩ = false) w hB (fun g h => by subst h; exact World.block_lt_of_cell? _ _ c0) ⟨c0, f0⟩
   (fun _ w1 w2 h hk => ⟨Go.Proofs.YtjhkecnnhddhbaaGreatDoor.cell_block h.1 (hk _ rfl), by rw [World.frozen?_of_block (w := w1) (a := ⟨Bi, 0, none⟩) (hk _ rfl)]; exact h.2⟩) Go.Proofs.YtjhkecnnhddhbaaGreatDoor.enterB58
   (fun k hk wr _ hj => (Go.Proofs.YtjhkecnnhddhbaaGreatDoor.start1_any k k (by omega) Bi wr hj.1 hj.2).mono fun e w' ⟨h1, h2⟩ => by
     subst h2
     exact ⟨h1, ⟨World.cell?_setCell_same wr _ _ hj.1, by rw [World.frozen?_setCell]; exact hj.2⟩, (Below.refl _ wr).setCell hb _, fun g hg _ => Below.heap_setCell wr _ _ g (by simpa using hg)⟩)
 exact h.mono fun e w' ⟨G, h1, h2, h3, h4, h5, h6⟩ => ⟨G, h1, h2, h3, h4.1, h4.2, h5, h6⟩
end Go.Proofs.YtjhkecnnhddhbaaGreatDoor.Ev

namespace Go.Proofs.YtjhkecnnhddhbaaGreatDoor.Ev
open Go.RowKit Go.Maps
set_option maxRecDepth 100000
structure StC (w wr : World) (B0 : Nat) : Prop where
 q0 : wr.cell? ⟨w.heap.size, 0, none⟩ = some (.slice (some ⟨B0, 0, none⟩) 3 3)
 b0 : wr.cell? ⟨w.heap.size + 2, 0, none⟩ = some (.pointer none)
 b1 : wr.cell? ⟨w.heap.size + 2, 1, none⟩ = some (.slice (some ⟨B0, 0, none⟩) 3 3)
 b2 : wr.cell? ⟨w.heap.size + 2, 2, none⟩ = some (.map (some (w.heap.size + 1)))
 bf : wr.frozen? ⟨w.heap.size + 2, 0, none⟩ = false
 i : wr.frozen? ⟨w.heap.size + 3, 0, none⟩ = false
 bel : Below w.heap.size w wr
 sz : w.heap.size + 4 ≤ wr.heap.size
theorem StC.later {w wr w1 : World} {B0 : Nat} (h : StC w wr B0) (hb : Below wr.heap.size wr w1) : StC w w1 B0 :=
 ⟨cell_later hb h.q0, cell_later hb h.b0, cell_later hb h.b1, cell_later hb h.b2, by rw [hb.frozen (World.block_lt_of_cell? _ _ h.b0)]; exact h.bf, by rw [hb.frozen (by have := h.sz; simp; omega)]; exact h.i, bthen h.bel hb, Nat.le_trans h.sz hb.size⟩
structure StA (w wr : World) (B0 : Nat) : Prop where
 c : StC w wr B0
 own : wr.ownsMap Tryz.prog 3 slR (w.heap.size + 1) 0 (.map [])
 cnt : wr.cell? ⟨w.heap.size + 3, 0, none⟩ = some (.int .i64 0)
theorem StA.later {w wr w1 : World} {B0 : Nat} (h : StA w wr B0) (hb : Below wr.heap.size wr w1) : StA w w1 B0 := ⟨h.c.later hb, map_block h.own (hb.block _ (by have := h.c.sz; omega)), cell_later hb h.cnt⟩
structure StB (w wr : World) (B0 G : Nat) : Prop where
 c : StC w wr B0
 own : wr.ownsMap Tryz.prog 3 slR (w.heap.size + 1) 1 ((DataW.map []).put (.int .i64 1) (slD G 0 1 1))
 cnt : wr.cell? ⟨w.heap.size + 3, 0, none⟩ = some (.int .i64 1)
 row : Go.Proofs.YtjhkecnnhddhbaaGreatDoor.IRow wr G [2]
 g : w.heap.size + 4 ≤ G
theorem kept_cell {w1 w2 : World} {a : Addr} {v : Value} {x : Nat} (h : w1.cell? a = some v) (hk : ∀ g, ¬ g = x → g < w1.heap.size → w2.heap[g]? = w1.heap[g]?) (hne : a.block ≠ x) : w2.cell? a = some v :=
 Go.Proofs.YtjhkecnnhddhbaaGreatDoor.cell_block h (hk _ hne (World.block_lt_of_cell? _ _ h))
theorem st_made {w wr w1 w2 : World} {B0 G : Nat} (h : StA w wr B0) (hsz : wr.heap.size ≤ w1.heap.size) (hG : wr.heap.size ≤ G) (hr : Go.Proofs.YtjhkecnnhddhbaaGreatDoor.IRow w1 G [2]) (hc : w1.cell? ⟨w.heap.size + 3, 0, none⟩ = some (.int .i64 1)) (hf : w1.frozen? ⟨w.heap.size + 3, 0, none⟩ = false)
   (hb : Below w.heap.size wr w1) (hk : ∀ g, ¬ g = w.heap.size + 3 → g < wr.heap.size → w1.heap[g]? = wr.heap[g]?)
   (hown : w2.ownsMap Tryz.prog 3 slR (w.heap.size + 1) 1 ((DataW.map []).put (.int .i64 1) (slD G 0 1 1))) (hg : w1.grownBy w2 (some (w.heap.size + 1))) : StB w w2 B0 G := by
 have hs := h.c.sz
 have hfz : ∀ a x, wr.cell? ⟨w.heap.size + 2, a, none⟩ = some x → wr.frozen? ⟨w.heap.size + 2, a, none⟩ = false → w1.frozen? ⟨w.heap.size + 2, a, none⟩ = false := fun a x h1 h2 => by
   rw [World.frozen?_of_block (w := wr) (a := ⟨w.heap.size + 2, a, none⟩) (hk _ (by simp) (World.block_lt_of_cell? _ _ h1))]; exact h2
 have b0' := kept_cell h.c.b0 hk (by simp)
 refine ⟨⟨hg.cell (kept_cell h.c.q0 hk (by simp)) (by simp), hg.cell b0' (by simp), hg.cell (kept_cell h.c.b1 hk (by simp)) (by simp), hg.cell (kept_cell h.c.b2 hk (by simp)) (by simp), ?_, ?_, ?_, ?_⟩, hown, hg.cell hc (by simp), ?_, by omega⟩
 · rw [Go.Proofs.YtjhkecnnhddhbaaGreatDoor.grown_frozen hg b0' (by simp)]; exact hfz _ _ h.c.b0 h.c.bf
 · rw [Go.Proofs.YtjhkecnnhddhbaaGreatDoor.grown_frozen hg hc (by simp)]; exact hf
 · exact (h.c.bel.trans hb).grown hg (by omega) (fun j hj => by cases hj; omega)
 · have := hg.size; omega
 · exact hr.kept (hg.block G (World.block_lt_of_cell? _ _ (hr 0 (by simp)).1) (by simp; omega))
end Go.Proofs.YtjhkecnnhddhbaaGreatDoor.Ev
