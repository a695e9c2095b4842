/- Marks are checked. -/
import Derived.Test.YtjhkecnnhddhbaaGreatDoorMkM
import Derived.Laws.AppendOwnNone
import Derived.Lib.SliceRun
namespace Go.Proofs.YtjhkecnnhddhbaaGreatDoor.Ev
open Go.RowKit
set_option maxRecDepth 100000
def hasSt (s : Int) (l : List (Int × Int)) : Bool := l.any (fun p => p.1 == s)
theorem enter75 (args : Array Value) (w : World) : (callFunc 115 args).run Tryz.prog w = .ok (.enter 115 args) w := by kernel_rfl
theorem enter76 (args : Array Value) (w : World) : (callFunc 117 args).run Tryz.prog w = .ok (.enter 117 args) w := by kernel_rfl
theorem marks1_any (a b s : Int) (B : Nat) (w : World) (hB : w.cell? ⟨B, 0, none⟩ = some (.int .i64 s)) :
   Calls Tryz.prog 114 #[.agg #[.int .i64 a, .int .i64 b], .pointer (some ⟨B, 0, none⟩)] w fun e w' => e = .returned (.bool (a == s)) ∧ Below w.heap.size w w' := by
 have t := past1 hB
 go_enter Tryz.func114, Tryz.ntmps114
 go_wp2
 go_ret
 exact ⟨rfl, bal (Below.refl _ _) _⟩
set_option maxRecDepth 100000 in
set_option maxHeartbeats 1000000 in
theorem indexPair_any (s : Int) (B : Nat) (l : List (Int × Int)) (p : Option Addr) (cap : Nat) (w : World) (hl : l.length ≤ 8796093022208) (hP : PairsAt w p l) (hB : w.cell? ⟨B, 0, none⟩ = some (.int .i64 s)) :
   Calls Tryz.prog 135 #[.slice p l.length cap, .func (.func 114) #[] #[.pointer (some ⟨B, 0, none⟩)]] w fun e w' => (∃ r : Int, e = .returned (.int .i64 r) ∧ (decide (0 ≤ r) = hasSt s l)) ∧ Below w.heap.size w w' := by
 go_enter Tryz.func135, Tryz.ntmps135
 go_wp2
 go_loopw [8] (fun i wr => ∃ k : Nat, k ≤ l.length ∧ i = .int .i64 k ∧ Hid (∀ i (hi : i < l.length), i < k → (l[i].1 == s) = false) ∧ Below w.heap.size w wr) (fun i _ => l.length - (intOf i).toNat)
 case atStart => exact ⟨0, Nat.zero_le _, rfl, fun i hi h => by omega, Below.refl _ _⟩
 case round =>
   obtain ⟨k, hk, rfl, hno, hbw⟩ := hrel
   by_cases hlt : k < l.length
   · obtain ⟨b, off, rfl, hc⟩ := (hP.later hbw) (by omega)
     obtain ⟨d0, d1⟩ := hc k hlt
     have hBr := cell_later hbw hB
     have HM : Hid ((l[k].1 == s) = true → hasSt s l = true) := fun h => List.any_eq_true.2 ⟨l[k], List.getElem_mem hlt, h⟩
     have HN : Hid ((l[k].1 == s) = false → ∀ i (hi : i < l.length), i < k + 1 → (l[i].1 == s) = false) := by
       intro h i hi hik
       rcases Nat.lt_succ_iff_lt_or_eq.1 hik with h1 | rfl
       · exact hno.out i hi h1
       · exact h
     clear hc hno
     generalize l[k] = pr at *
     obtain ⟨a, y⟩ := pr
     simp only at *
     go_wp2_with fail
     refine (marks1_any a y s B _ hBr).mono ?_
     rintro e w' ⟨rfl, hb2⟩
     cases hf : a == s
     · have HN2 := hide (HN.out hf)
       clear hf HN HM
       go_wp2
       go_roundw
       case rel => exact ⟨k + 1, by omega, by go_num, HN2, bthen hbw hb2⟩
       case measure => simp [intOf]; omega
     · have HM2 := hide (HM.out hf)
       clear hf HN HM
       go_wp2
       go_ret
       exact ⟨⟨_, rfl, by rw [HM2.out]; simp⟩, bthen hbw hb2⟩
   · have HV : Hid (hasSt s l = false) := by
       unfold hasSt
       refine List.any_eq_false.2 (fun x hx => ?_)
       obtain ⟨i, hi, rfl⟩ := List.getElem_of_mem hx
       simp [hno.out i hi (by omega)]
     clear hno
     go_wp2
     go_ret
     exact ⟨⟨_, rfl, by rw [HV.out]; rfl⟩, hbw⟩
theorem containsPair_any (s : Int) (B : Nat) (l : List (Int × Int)) (p : Option Addr) (cap : Nat) (w : World) (hl : l.length ≤ 8796093022208) (hP : PairsAt w p l) (hB : w.cell? ⟨B, 0, none⟩ = some (.int .i64 s)) :
   Calls Tryz.prog 113 #[.slice p l.length cap, .func (.func 114) #[] #[.pointer (some ⟨B, 0, none⟩)]] w fun e w' => e = .returned (.bool (hasSt s l)) ∧ Below w.heap.size w w' := by
 have HC := hide (fun _ : Unit => indexPair_any s B l p cap w hl hP hB)
 clear hP hB
 go_enter Tryz.func113, Tryz.ntmps113
 go_wp2_with fail
 refine (HC.out ()).mono ?_
 rintro e w' ⟨⟨r, rfl, hr⟩, hb2⟩
 have HR := hide hr
 clear hr
 go_wp2
 go_ret
 exact ⟨ret_bool HR.out, hb2⟩
theorem marks2_any (m : Mv) (len : Nat) (hl : len ≤ 80) (x : Int) (B : Nat) (w : World) (hB : Box w B m len) :
   Calls Tryz.prog 115 #[.int .i64 x, .pointer (some ⟨B, 0, none⟩)] w fun e w' => e = .returned (.bool (!isN len x)) ∧ Below w.heap.size w w' := by
 obtain ⟨q0, q1, q2, q3, q4⟩ := hB
 go_enter Tryz.func115, Tryz.ntmps115
 go_wp2_with fail
 refine (isNode_below m len (by unfold maxLen; omega) x _).mono ?_
 rintro e w1 ⟨rfl, hb1⟩
 go_wp2
 go_ret
 exact ⟨rfl, hb1⟩
theorem marks3_any (m : Mv) (ns : List Nd) (hl : ns.length ≤ 80) (x : Int) (hx : 0 ≤ x ∧ x < ns.length) (B : Nat) (w : World) (hB : Box w B m ns.length) (hN : NodesAt w m.a0 ns) :
   Calls Tryz.prog 117 #[.int .i64 x, .pointer (some ⟨B, 0, none⟩)] w fun e w' => e = .returned (.bool (wdOf ns x != 1)) ∧ Below w.heap.size w w' := by
 obtain ⟨q0, q1, q2, q3, q4⟩ := hB
 obtain ⟨b, off, hp, hc⟩ := hN (by omega)
 have hw := wd_cell hc x hx.1 hx.2
 rw [hp] at q0
 clear hp hc hN q1 q2 q3 q4
 go_enter Tryz.func117, Tryz.ntmps117
 go_wp2
 go_ret
 exact ⟨rfl, Below.refl _ _⟩
end Go.Proofs.YtjhkecnnhddhbaaGreatDoor.Ev

namespace Go.Proofs.YtjhkecnnhddhbaaGreatDoor.Ev
open Go.RowKit
set_option maxRecDepth 100000
def marksE (ns : List Nd) (xs : List (Int × Int)) (bs hs : List Int) : Int :=
 if (sel (isK ns 3) ns.length).any (fun s => !hasSt s xs) then 5
 else if bs.any (fun x => !isN ns.length x) || hs.any (fun x => !isN ns.length x) then 5
 else if bs.any (fun x => wdOf ns x != 1) || hs.any (fun x => wdOf ns x != 1) then 1 else 0
theorem missing_any (m : Mv) (len : Nat) (hl : len ≤ 80) (l : List Int) (hll : l.length ≤ 80) (p : Option Addr) (cap B : Nat) (w : World) (hI : IntsAt w p l) (hB : Box w B m len) :
   Calls Tryz.prog 18 #[.slice p l.length cap, .func (.func 115) #[] #[.pointer (some ⟨B, 0, none⟩)]] w fun e w' => e = .returned (.bool (l.any (fun x => !isN len x))) ∧ Below w.heap.size w w' :=
 containsFunc_any 115 _ _ l p cap w (by unfold maxLen; omega) hI enter75 fun _ hb i _ => marks2_any m len hl l[i] B _ (hB.later hb)
theorem wide_any (m : Mv) (ns : List Nd) (hl : ns.length ≤ 80) (l : List Int) (hll : l.length ≤ 80) (hn : l.any (fun x => !isN ns.length x) = false) (p : Option Addr) (cap B : Nat) (w : World) (hI : IntsAt w p l) (hB : Box w B m ns.length) (hN : NodesAt w m.a0 ns) :
   Calls Tryz.prog 18 #[.slice p l.length cap, .func (.func 117) #[] #[.pointer (some ⟨B, 0, none⟩)]] w fun e w' => e = .returned (.bool (l.any (fun x => wdOf ns x != 1))) ∧ Below w.heap.size w w' :=
 containsFunc_any 117 _ _ l p cap w (by unfold maxLen; omega) hI enter76 fun _ hb i hi => marks3_any m ns hl l[i] (isN_true.1 (by have := List.any_eq_false.1 hn l[i] (List.getElem_mem hi); simpa using this)) B _ (hB.later hb) (hN.later hb)
set_option maxRecDepth 100000 in
set_option maxHeartbeats 2000000 in
theorem checkMarks_any (a0 a1 a2 a3 a4 : Option Addr) (c0 c1 c2 c3 c4 l1 : Nat) (ns : List Nd) (xs : List (Int × Int)) (bs hs : List Int) (hl : ns.length ≤ 80) (hlx : xs.length ≤ 8796093022208) (hlb : bs.length ≤ 80) (hlh : hs.length ≤ 80) (w : World)
   (hN : NodesAt w a0 ns) (hX : PairsAt w a2 xs) (hBs : IntsAt w a3 bs) (hHs : IntsAt w a4 hs) :
   Calls Tryz.prog 88 #[Mv.val ⟨a0, c0, a1, l1, c1, a2, xs.length, c2, a3, bs.length, c3, a4, hs.length, c4⟩ ns.length] w fun e w' => e = .returned (.int .i64 (marksE ns xs bs hs)) ∧ Below w.heap.size w w' := by
 have hmf : ∀ (fn : Fn) (first cap : Array Value) (w : World), (Instr.makeFunc fn first cap).run Tryz.prog w = .ok (.func fn first cap) w := fun _ _ _ _ => rfl
 have HBx := hide (Box.new w ⟨a0, c0, a1, l1, c1, a2, xs.length, c2, a3, bs.length, c3, a4, hs.length, c4⟩ ns.length)
 have hb0 : Below w.heap.size w (w.alloc (.cells (Mv.cells ⟨a0, c0, a1, l1, c1, a2, xs.length, c2, a3, bs.length, c3, a4, hs.length, c4⟩ ns.length) 65)) := bal (Below.refl _ _) _
 go_enter Tryz.func88, Tryz.ntmps88
 go_wp2_with fail
 refine (ofKind_any a0 c0 ns (by omega) 3 _ (hN.later hb0)).mono ?_
 rintro e w1 ⟨q, qc, rfl, hQ, hb1⟩
 have hbw1 := bthen hb0 hb1
 have HB1 := hide (HBx.out.later hb1)
 have hN1 := hN.later hbw1
 have hX1 := hX.later hbw1
 have hBs1 := hBs.later hbw1
 have hHs1 := hHs.later hbw1
 have hsl := sel_len (isK ns 3) ns.length
 clear hb0 hb1 HBx hN hX hBs hHs
 generalize hL : sel (isK ns 3) ns.length = l at *
 have HL := hide hL
 clear hL
 go_wp2
 go_loopw [11] (fun i wr => ∃ k : Nat, k ≤ l.length ∧ i = .int .i64 k ∧ Below w1.heap.size w1 wr ∧ Hid (∀ i (hi : i < l.length), i < k → (!hasSt l[i] xs) = false)) (fun i _ => l.length - (intOf i).toNat)
 case atStart => exact ⟨0, Nat.zero_le _, rfl, Below.refl _ _, fun i hi h => by omega⟩
 case round =>
   obtain ⟨k, hk, rfl, hbw, hz⟩ := hrel
   have hbox := HB1.out.later hbw
   have HBr := hide hbox
   simp only [Box] at hbox
   obtain ⟨q0, q1, q2, q3, q4⟩ := hbox
   by_cases hlt : k < l.length
   · obtain ⟨b, off, rfl, hc⟩ := (hQ.later hbw) (by omega)
     have hck := hc k hlt
     have HM : Hid (hasSt l[k] xs = false → l.any (fun s => !hasSt s xs) = true) := fun h => List.any_eq_true.2 ⟨l[k], List.getElem_mem hlt, by simp [h]⟩
     have HN : Hid (hasSt l[k] xs = true → ∀ i (hi : i < l.length), i < k + 1 → (!hasSt l[i] xs) = false) := by
       intro h i hi hik
       rcases Nat.lt_succ_iff_lt_or_eq.1 hik with h1 | rfl
       · exact hz.out i hi h1
       · simp [h]
     clear hc hz
     generalize l[k] = s at *
     have t2 := past1 q2
     go_wp2_with fail
     refine (containsPair_any s wr.heap.size xs a2 c2 _ hlx (hX1.later (bal hbw _)) (by simp [go_sem])).mono ?_
     rintro e w2 ⟨rfl, hb2⟩
     have hbw2 := bthen (bal hbw _) hb2
     cases hf : hasSt s xs
     · have HM2 := hide (HM.out hf)
       have HE : Hid (marksE ns xs bs hs = 5) := by unfold marksE; rw [HL.out, if_pos HM2.out]; rfl
       clear hf HM HN
       go_wp2
       go_ret
       exact ⟨ret_int HE.out.symm, bthen hbw1 hbw2⟩
     · have HN2 := hide (HN.out hf)
       clear hf HM HN
       go_wp2
       go_roundw
       case rel => exact ⟨k + 1, by omega, by go_num, hbw2, HN2⟩
       case measure => simp [intOf]; omega
   · have HV : Hid (l.any (fun s => !hasSt s xs) = false) := by
       refine List.any_eq_false.2 (fun x hx => ?_)
       obtain ⟨i, hi, rfl⟩ := List.getElem_of_mem hx
       simpa using hz.out i hi (by omega)
     clear hz
     go_wp2_with fail
     refine (missing_any _ ns.length hl bs hlb a3 c3 w.heap.size _ (hBs1.later hbw) HBr.out).mono ?_
     rintro e w2 ⟨rfl, hb2⟩
     have hbw2 := bthen hbw hb2
     have HB2 := hide (HBr.out.later hb2)
     have x3 := cell_later hb2 q3
     have x4 := cell_later hb2 q4
     clear q0 q1 q2 q3 q4 hb2
     cases hm1 : bs.any (fun x => !isN ns.length x)
     · go_wp2_with fail
       refine (missing_any _ ns.length hl hs hlh a4 c4 w.heap.size _ (hHs1.later hbw2) HB2.out).mono ?_
       rintro e w3 ⟨rfl, hb3⟩
       have hbw3 := bthen hbw2 hb3
       have HB3 := hide (HB2.out.later hb3)
       have y3 := cell_later hb3 x3
       have y4 := cell_later hb3 x4
       clear x3 x4 hb3
       cases hm2 : hs.any (fun x => !isN ns.length x)
       · have HM1 := hide hm1
         have HM2 := hide hm2
         clear hm1 hm2
         go_wp2_with fail
         refine (wide_any _ ns hl bs hlb HM1.out a3 c3 w.heap.size _ (hBs1.later hbw3) HB3.out (hN1.later hbw3)).mono ?_
         rintro e w4 ⟨rfl, hb4⟩
         have hbw4 := bthen hbw3 hb4
         have HB4 := hide (HB3.out.later hb4)
         have z4 := cell_later hb4 y4
         clear y3 y4 hb4
         cases hv1 : bs.any (fun x => wdOf ns x != 1)
         · have HV1 := hide hv1
           clear hv1
           go_wp2_with fail
           refine (wide_any _ ns hl hs hlh HM2.out a4 c4 w.heap.size _ (hHs1.later hbw4) HB4.out (hN1.later hbw4)).mono ?_
           rintro e w5 ⟨rfl, hb5⟩
           have HE : Hid (marksE ns xs bs hs = if hs.any (fun x => wdOf ns x != 1) then 1 else 0) := by
             unfold marksE; rw [HL.out, HV.out, HM1.out, HM2.out, HV1.out]; rfl
           cases hv2 : hs.any (fun x => wdOf ns x != 1)
           · rw [hv2] at HE
             go_wp2
             go_ret
             exact ⟨ret_int HE.out.symm, bthen hbw1 (bthen hbw4 hb5)⟩
           · rw [hv2] at HE
             go_wp2
             go_ret
             exact ⟨ret_int HE.out.symm, bthen hbw1 (bthen hbw4 hb5)⟩
         · have HE : Hid (marksE ns xs bs hs = 1) := by
             unfold marksE; rw [HL.out, HV.out, HM1.out, HM2.out, hv1]; rfl
           clear hv1
           go_wp2
           go_ret
           exact ⟨ret_int HE.out.symm, bthen hbw1 hbw4⟩
       · have HE : Hid (marksE ns xs bs hs = 5) := by
           unfold marksE; rw [HL.out, HV.out, hm1, hm2]; rfl
         clear hm1 hm2
         go_wp2
         go_ret
         exact ⟨ret_int HE.out.symm, bthen hbw1 hbw3⟩
     · have HE : Hid (marksE ns xs bs hs = 5) := by
         unfold marksE; rw [HL.out, HV.out, hm1]; rfl
       clear hm1
       go_wp2
       go_ret
       exact ⟨ret_int HE.out.symm, bthen hbw1 hbw2⟩
end Go.Proofs.YtjhkecnnhddhbaaGreatDoor.Ev

namespace Go.Proofs.YtjhkecnnhddhbaaGreatDoor.Ev
open Go.RowKit
set_option maxRecDepth 100000
def firstN (f : Nat → Int) : Nat → Int
 | 0 => 0
 | k + 1 => if firstN f k ≠ 0 then firstN f k else f k
theorem firstN_zero {f : Nat → Int} {n : Nat} : firstN f n = 0 ↔ ∀ i, i < n → f i = 0 := by
 induction n with
 | zero => simp [firstN]
 | succ n ih =>
   simp only [firstN]
   by_cases h : firstN f n = 0
   · rw [if_neg (by simp [h])]
     constructor
     · intro hf i hi
       rcases Nat.lt_succ_iff_lt_or_eq.1 hi with h1 | rfl
       · exact ih.1 h i h1
       · exact hf
     · intro hf; exact hf n (by omega)
   · rw [if_pos h]
     constructor
     · intro hf; exact absurd hf h
     · intro hf; exact ih.2 (fun i hi => hf i (by omega))
theorem firstN_hit {f : Nat → Int} {k n : Nat} (hk : k < n) (h : ∀ i, i < k → f i = 0) (hf : f k ≠ 0) : firstN f n = f k := by
 induction n with
 | zero => omega
 | succ n ih =>
   simp only [firstN]
   by_cases hkn : k < n
   · rw [ih hkn, if_pos hf]
   · obtain rfl : k = n := by omega
     rw [if_neg (by rw [firstN_zero.2 h]; simp)]
def nodeAtE (ns : List Nd) (i : Nat) : Int := match ns[i]? with | some x => nodeE ns i x | none => 0
theorem nodeAtE_at {ns : List Nd} {i : Nat} (h : i < ns.length) : nodeAtE ns i = nodeE ns i ns[i] := by
 unfold nodeAtE; rw [List.getElem?_eq_getElem h]
def checkE (ns : List Nd) (is xs : List (Int × Int)) (bs hs : List Int) : Int :=
 if 80 < ns.length ∨ 8 < bs.length ∨ 8 < hs.length then 2
 else if firstN (nodeAtE ns) ns.length ≠ 0 then firstN (nodeAtE ns) ns.length
 else if 6 < sumW ns (sel (isK ns 2) ns.length) ∨ 10 < sumW ns (sel (isK ns 3) ns.length) then 2
 else if pairsE ns is xs ≠ 0 then pairsE ns is xs else marksE ns xs bs hs
theorem bad_false {t i num x : Int} (h : badOn t i num x = false) (hi : i < t) : 0 ≤ x ∧ x < num := by
 unfold badOn at h
 rw [if_pos hi] at h
 simp at h
 omega
theorem opE_zero {ns : List Nd} {i : Nat} {x : Nd} (h : opE ns i x = 0) : ∀ y ∈ opsL x, 0 ≤ y ∧ y < i := by
 unfold opE at h
 by_cases hb : (badOn (takes x.kind) 0 i x.a || badOn (takes x.kind) 1 i x.b || badOn (takes x.kind) 2 i x.c) = true
 · rw [if_pos hb] at h; omega
 · simp only [Bool.or_eq_true, not_or, Bool.not_eq_true] at hb
   obtain ⟨⟨h0, h1⟩, h2⟩ := hb
   intro y hy
   unfold opsL at hy
   rcases takes_four x.kind with ht | ht | ht | ht
   all_goals rw [ht] at hy h0 h1 h2
   · simp at hy
   · simp at hy; subst hy; exact bad_false h0 (by omega)
   · simp at hy
     rcases hy with rfl | rfl
     · exact bad_false h0 (by omega)
     · exact bad_false h1 (by omega)
   · simp at hy
     rcases hy with rfl | rfl | rfl
     · exact bad_false h0 (by omega)
     · exact bad_false h1 (by omega)
     · exact bad_false h2 (by omega)
theorem node_zero {ns : List Nd} {i : Nat} {x : Nd} (h : nodeE ns i x = 0) : (1 ≤ x.width ∧ x.width ≤ 8) ∧ (1 ≤ x.kind ∧ x.kind ≤ 23) ∧ (∀ y ∈ opsL x, 0 ≤ y ∧ y < i) ∧ (4 ≤ x.kind → opE ns i x = 0) ∧ (x.kind < 4 → leafE x = 0) := by
 unfold nodeE at h
 by_cases h1 : btw x.kind 1 23 = false
 · rw [if_pos h1] at h; omega
 rw [if_neg h1] at h
 by_cases h2 : btw x.width 1 8 = false
 · rw [if_pos h2] at h; omega
 rw [if_neg h2] at h
 have hk := btw_true.1 (show btw x.kind 1 23 = true from by simpa using h1)
 have hw := btw_true.1 (show btw x.width 1 8 = true from by simpa using h2)
 by_cases h4 : 4 ≤ x.kind
 · rw [if_pos h4] at h
   exact ⟨hw, hk, opE_zero h, fun _ => h, fun h' => by omega⟩
 · rw [if_neg h4] at h
   refine ⟨hw, hk, ?_, fun h' => absurd h' h4, fun _ => h⟩
   intro y hy
   have ht : takes x.kind = 0 := by unfold takes; (repeat' split) <;> omega
   unfold opsL at hy
   rw [ht] at hy
   simp at hy
theorem nodes_ok {ns : List Nd} (h : firstN (nodeAtE ns) ns.length = 0) : Wok ns ∧ Ook ns := by
 have h' := firstN_zero.1 h
 refine ⟨fun i hi => ?_, fun i hi => ?_⟩
 · have := h' i hi
   rw [nodeAtE_at hi] at this
   exact (node_zero this).1
 · have := h' i hi
   rw [nodeAtE_at hi] at this
   exact (node_zero this).2.2.1
set_option maxRecDepth 100000 in
set_option maxHeartbeats 1000000 in
theorem check_any (a0 a1 a2 a3 a4 : Option Addr) (c0 c1 c2 c3 c4 : Nat) (ns : List Nd) (is xs : List (Int × Int)) (bs hs : List Int) (hln : ns.length ≤ maxLen) (hli : is.length ≤ 8796093022208) (hlx : xs.length ≤ 8796093022208) (hlb : bs.length ≤ maxLen) (hlh : hs.length ≤ maxLen) (w : World)
   (hN : NodesAt w a0 ns) (hI : PairsAt w a1 is) (hX : PairsAt w a2 xs) (hBs : IntsAt w a3 bs) (hHs : IntsAt w a4 hs) :
   Calls Tryz.prog 73 #[Mv.val ⟨a0, c0, a1, is.length, c1, a2, xs.length, c2, a3, bs.length, c3, a4, hs.length, c4⟩ ns.length] w fun e w' => e = .returned (.int .i64 (checkE ns is xs bs hs)) ∧ Below w.heap.size w w' := by
 unfold maxLen at hln hlb hlh
 by_cases hm : 80 < ns.length ∨ 8 < bs.length ∨ 8 < hs.length
 · have HE : Hid (checkE ns is xs bs hs = 2) := by unfold checkE; rw [if_pos hm]; rfl
   by_cases h1 : 80 < ns.length
   · clear hm
     go_enter Tryz.func73, Tryz.ntmps73
     go_wp2
     go_ret
     exact ⟨ret_int HE.out.symm, bal (Below.refl _ _) _⟩
   · by_cases h2 : 8 < bs.length
     · clear hm
       go_enter Tryz.func73, Tryz.ntmps73
       go_wp2
       go_ret
       exact ⟨ret_int HE.out.symm, bal (Below.refl _ _) _⟩
     · have h3 : 8 < hs.length := by omega
       clear hm
       go_enter Tryz.func73, Tryz.ntmps73
       go_wp2
       go_ret
       exact ⟨ret_int HE.out.symm, bal (Below.refl _ _) _⟩
 · have h1 : ns.length ≤ 80 := by omega
   have h2 : bs.length ≤ 8 := by omega
   have h3 : hs.length ≤ 8 := by omega
   have HC : Hid (checkE ns is xs bs hs = if firstN (nodeAtE ns) ns.length ≠ 0 then firstN (nodeAtE ns) ns.length else if 6 < sumW ns (sel (isK ns 2) ns.length) ∨ 10 < sumW ns (sel (isK ns 3) ns.length) then 2 else if pairsE ns is xs ≠ 0 then pairsE ns is xs else marksE ns xs bs hs) := by
     unfold checkE; rw [if_neg hm]; rfl
   have HBx := hide (Box.new w ⟨a0, c0, a1, is.length, c1, a2, xs.length, c2, a3, bs.length, c3, a4, hs.length, c4⟩ ns.length)
   have hb0 : Below w.heap.size w (w.alloc (.cells (Mv.cells ⟨a0, c0, a1, is.length, c1, a2, xs.length, c2, a3, bs.length, c3, a4, hs.length, c4⟩ ns.length) 65)) := bal (Below.refl _ _) _
   have HB0 := hide hb0
   clear hm hln hlb hlh hb0
   go_enter Tryz.func73, Tryz.ntmps73
   go_wp2
   go_loopw [25] (fun i wr => ∃ k : Nat, k ≤ ns.length ∧ i = .int .i64 k ∧ Below w.heap.size w wr ∧ Hid (Box wr w.heap.size ⟨a0, c0, a1, is.length, c1, a2, xs.length, c2, a3, bs.length, c3, a4, hs.length, c4⟩ ns.length) ∧ Hid (∀ i, i < k → nodeAtE ns i = 0)) (fun i _ => ns.length - (intOf i).toNat)
   case atStart => exact ⟨0, Nat.zero_le _, rfl, HB0.out, HBx.out, fun i hi => by omega⟩
   case round =>
     obtain ⟨k, hk, rfl, hbw, hbx, hz⟩ := hrel
     have hbox := hbx.out
     simp only [Box] at hbox
     obtain ⟨q0, q1, q2, q3, q4⟩ := hbox
     by_cases hlt : k < ns.length
     · have hcall := checkNode_any a0 c0 ns h1 k hlt wr (hN.later hbw)
       rw [← nodeAtE_at hlt] at hcall
       have HCC := hide (fun _ : Unit => hcall)
       have HZ : Hid (nodeAtE ns k = 0 → ∀ i, i < k + 1 → nodeAtE ns i = 0) := by
         intro h i hi
         rcases Nat.lt_succ_iff_lt_or_eq.1 hi with h1 | rfl
         · exact hz.out i h1
         · exact h
       have HH : Hid (nodeAtE ns k ≠ 0 → firstN (nodeAtE ns) ns.length = nodeAtE ns k) := fun h => firstN_hit hlt hz.out h
       clear hcall hz
       go_wp2_with fail
       refine (HCC.out ()).mono ?_
       rintro e w2 ⟨rfl, hb2⟩
       have hbw2 := bthen hbw hb2
       have HBB := hide (hbx.out.later hb2)
       by_cases hn : nodeAtE ns k = 0
       · have HZ2 := hide (HZ.out hn)
         rw [hn]
         clear hn HZ HH
         go_wp2
         go_roundw
         case rel => exact ⟨k + 1, by omega, by go_num, hbw2, HBB, HZ2⟩
         case measure => simp [intOf]; omega
       · have HE : Hid (checkE ns is xs bs hs = nodeAtE ns k) := by
           rw [HC.out, HH.out hn, if_pos hn]; rfl
         have hn' : (nodeAtE ns k != 0) = true := by simp [hn]
         clear hn HZ HH
         go_wp2
         go_ret
         exact ⟨ret_int HE.out.symm, hbw2⟩
     · have HF : Hid (firstN (nodeAtE ns) ns.length = 0) := firstN_zero.2 (fun i hi => hz.out i (by omega))
       obtain ⟨hW, hO⟩ := nodes_ok HF.out
       have HW := hide hW
       have HO := hide hO
       clear hz hW hO
       have HC2 : Hid (checkE ns is xs bs hs = if 6 < sumW ns (sel (isK ns 2) ns.length) ∨ 10 < sumW ns (sel (isK ns 3) ns.length) then 2 else if pairsE ns is xs ≠ 0 then pairsE ns is xs else marksE ns xs bs hs) := by
         rw [HC.out, HF.out, if_neg (by simp)]; rfl
       clear HC
       go_wp2_with fail
       refine (bitsOf_any a0 c0 ns h1 HW.out 2 _ (hN.later hbw)).mono ?_
       rintro e w2 ⟨rfl, hb2⟩
       have hbw2 := bthen hbw hb2
       have HB2 := hide (hbx.out.later hb2)
       have hbox2 := HB2.out
       simp only [Box] at hbox2
       obtain ⟨r0, r1, r2, r3, r4⟩ := hbox2
       clear q0 q1 q2 q3 q4 hb2
       by_cases hs1 : 6 < sumW ns (sel (isK ns 2) ns.length)
       · have HE : Hid (checkE ns is xs bs hs = 2) := by rw [HC2.out, if_pos (Or.inl hs1)]; rfl
         clear HC2
         go_wp2
         go_ret
         exact ⟨ret_int HE.out.symm, hbw2⟩
       · go_wp2_with fail
         refine (bitsOf_any a0 c0 ns h1 HW.out 3 _ (hN.later hbw2)).mono ?_
         rintro e w3 ⟨rfl, hb3⟩
         have hbw3 := bthen hbw2 hb3
         have HB3 := hide (HB2.out.later hb3)
         have hbox3 := HB3.out
         simp only [Box] at hbox3
         obtain ⟨s0, s1, s2, s3, s4⟩ := hbox3
         clear r0 r1 r2 r3 r4 hb3
         by_cases hs2 : 10 < sumW ns (sel (isK ns 3) ns.length)
         · have HE : Hid (checkE ns is xs bs hs = 2) := by rw [HC2.out, if_pos (Or.inr hs2)]; rfl
           clear HC2
           go_wp2
           go_ret
           exact ⟨ret_int HE.out.symm, hbw3⟩
         · have HC3 : Hid (checkE ns is xs bs hs = if pairsE ns is xs ≠ 0 then pairsE ns is xs else marksE ns xs bs hs) := by
             rw [HC2.out, if_neg (by omega)]; rfl
           clear HC2
           go_wp2_with fail
           refine (checkPairs_any a0 a1 a2 a3 a4 c0 c1 c2 c3 c4 bs.length hs.length ns is xs h1 hli hlx HO.out _ (hN.later hbw3) (hI.later hbw3) (hX.later hbw3)).mono ?_
           rintro e w4 ⟨rfl, hb4⟩
           have hbw4 := bthen hbw3 hb4
           have HB4 := hide (HB3.out.later hb4)
           have hbox4 := HB4.out
           simp only [Box] at hbox4
           obtain ⟨t0, t1, t2, t3, t4⟩ := hbox4
           clear s0 s1 s2 s3 s4 hb4
           by_cases hp : pairsE ns is xs = 0
           · have HE : Hid (checkE ns is xs bs hs = marksE ns xs bs hs) := by rw [HC3.out, if_neg (by simp [hp])]; rfl
             rw [hp]
             clear HC3 hp
             go_wp2_with fail
             refine (checkMarks_any a0 a1 a2 a3 a4 c0 c1 c2 c3 c4 is.length ns xs bs hs h1 hlx (by omega) (by omega) _ (hN.later hbw4) (hX.later hbw4) (hBs.later hbw4) (hHs.later hbw4)).mono ?_
             rintro e w5 ⟨rfl, hb5⟩
             go_wp2
             go_ret
             exact ⟨ret_int HE.out.symm, bthen hbw4 hb5⟩
           · have HE : Hid (checkE ns is xs bs hs = pairsE ns is xs) := by rw [HC3.out, if_pos hp]; rfl
             have hp' : (pairsE ns is xs != 0) = true := by simp [hp]
             clear HC3 hp
             go_wp2
             go_ret
             exact ⟨ret_int HE.out.symm, hbw4⟩
end Go.Proofs.YtjhkecnnhddhbaaGreatDoor.Ev

namespace Go.Proofs.YtjhkecnnhddhbaaGreatDoor.Ev
open Go.RowKit
set_option maxRecDepth 100000
end Go.Proofs.YtjhkecnnhddhbaaGreatDoor.Ev

namespace Go.Proofs.YtjhkecnnhddhbaaGreatDoor.Ev
open Go.RowKit
set_option maxRecDepth 100000
end Go.Proofs.YtjhkecnnhddhbaaGreatDoor.Ev

namespace Go.Proofs.YtjhkecnnhddhbaaGreatDoor.Ev
open Go.RowKit
set_option maxRecDepth 100000
end Go.Proofs.YtjhkecnnhddhbaaGreatDoor.Ev

namespace Go.Proofs.YtjhkecnnhddhbaaGreatDoor.Ev
open Go.RowKit
set_option maxRecDepth 100000
end Go.Proofs.YtjhkecnnhddhbaaGreatDoor.Ev

namespace Go.Proofs.YtjhkecnnhddhbaaGreatDoor.Ev
open Go.RowKit
set_option maxRecDepth 100000
set_option maxRecDepth 100000 in
set_option maxHeartbeats 1000000 in
theorem inputs_any (a0 a1 a2 a3 a4 : Option Addr) (c0 c1 c2 c3 c4 : Nat) (ns : List Nd) (is xs : List (Int × Int)) (bs hs : List Int) (hln : ns.length ≤ 2932031007402) (hli : is.length ≤ 8796093022208) (hlx : xs.length ≤ 8796093022208) (hlb : bs.length ≤ maxLen) (hlh : hs.length ≤ maxLen) (w : World)
   (hN : NodesAt w a0 ns) (hI : PairsAt w a1 is) (hX : PairsAt w a2 xs) (hBs : IntsAt w a3 bs) (hHs : IntsAt w a4 hs) :
   Calls Tryz.prog 118 #[Mv.val ⟨a0, c0, a1, is.length, c1, a2, xs.length, c2, a3, bs.length, c3, a4, hs.length, c4⟩ ns.length] w fun e w' =>
     ∃ p cap l, e = .returned (.tuple #[.slice p l.length cap, .int .i64 (checkE ns is xs bs hs)]) ∧ l = (if checkE ns is xs bs hs = 0 then sel (isK ns 2) ns.length else []) ∧ IntsAt w' p l ∧ Below w.heap.size w w' := by
 have HB0 : Hid (Below w.heap.size w (w.alloc (.cells (Mv.cells ⟨a0, c0, a1, is.length, c1, a2, xs.length, c2, a3, bs.length, c3, a4, hs.length, c4⟩ ns.length) 65))) := bal (Below.refl _ _) _
 have HBx := hide (Box.new w ⟨a0, c0, a1, is.length, c1, a2, xs.length, c2, a3, bs.length, c3, a4, hs.length, c4⟩ ns.length)
 have HK := hide (fun _ : Unit => check_any a0 a1 a2 a3 a4 c0 c1 c2 c3 c4 ns is xs bs hs (by unfold maxLen; omega) hli hlx hlb hlh _ (hN.later HB0.out) (hI.later HB0.out) (hX.later HB0.out) (hBs.later HB0.out) (hHs.later HB0.out))
 generalize checkE ns is xs bs hs = ce at *
 go_enter Tryz.func118, Tryz.ntmps118
 go_wp2_with fail
 refine (HK.out ()).mono ?_
 rintro e w1 ⟨rfl, hb1⟩
 have hbw := bthen HB0.out hb1
 have HBB := hide (HBx.out.later hb1)
 have hbox := HBB.out
 simp only [Box] at hbox
 obtain ⟨q0, q1, q2, q3, q4⟩ := hbox
 by_cases hce : ce = 0
 · subst hce
   have HO := hide (fun _ : Unit => ofKind_any a0 c0 ns hln 2 w1 (hN.later hbw))
   go_wp2_with fail
   refine (HO.out ()).mono ?_
   rintro e w2 ⟨p, cap, rfl, hl, hb2⟩
   go_wp2
   go_ret2
   exact ⟨p, cap, _, rfl, by simp, hl, bthen hbw hb2⟩
 · have hne : (ce != 0) = true := by simp [hce]
   have HE := hide hce
   clear hce
   go_wp2
   go_ret2
   exact ⟨none, 0, [], rfl, by first | rfl | rw [if_neg HE.out], fun h => by simp at h, hbw⟩
end Go.Proofs.YtjhkecnnhddhbaaGreatDoor.Ev

namespace Go.Proofs.YtjhkecnnhddhbaaGreatDoor.Ev
open Go.RowKit
set_option maxRecDepth 100000
theorem getD_set (b : List Bool) (k j : Nat) (hk : k < b.length) : (b.set k true).getD j false = if j = k then true else b.getD j false := by
 simp only [List.getD, List.getElem?_set]
 by_cases h : j = k
 · subst h; simp [hk]
 · have h' : ¬ k = j := fun e => h e.symm
   simp [h, h']
end Go.Proofs.YtjhkecnnhddhbaaGreatDoor.Ev

namespace Go.Proofs.YtjhkecnnhddhbaaGreatDoor.Ev
open Go.RowKit
set_option maxRecDepth 100000
end Go.Proofs.YtjhkecnnhddhbaaGreatDoor.Ev

namespace Go.Proofs.YtjhkecnnhddhbaaGreatDoor.Ev
open Go.RowKit
set_option maxRecDepth 100000
theorem owns_below {w w1 : World} {base : Nat} {e : TypeId} {size : Nat} {v : Value} {n : Nat} {xs : List Value} (h : w.ownsRow base e size v n xs) (hb : Below w.heap.size w w1) : w1.ownsRow base e size v n xs := by
 refine ⟨h.1, ?_⟩
 rcases h.2 with h0 | ⟨g, cap, cur, hv, hg, hh, r⟩
 · exact .inl h0
 · refine .inr ⟨g, cap, cur, hv, hg, ?_, r⟩
   obtain ⟨h1, _⟩ := Array.getElem?_eq_some_iff.1 hh
   rw [hb.block g h1]
   exact hh
theorem owns_set {w : World} {base : Nat} {e : TypeId} {size : Nat} {v : Value} {n : Nat} {xs : List Value} (h : w.ownsRow base e size v n xs) (a : Addr) (u : Value) (ha : a.block < base) : (w.setCell a u).ownsRow base e size v n xs := by
 refine ⟨h.1, ?_⟩
 rcases h.2 with h0 | ⟨g, cap, cur, hv, hg, hh, r⟩
 · exact .inl h0
 · refine .inr ⟨g, cap, cur, hv, hg, ?_, r⟩
   rw [Below.heap_setCell w a u g (by omega)]
   exact hh
def lenOf : Value → Nat | .slice _ n _ => n | _ => 0
end Go.Proofs.YtjhkecnnhddhbaaGreatDoor.Ev

namespace Go.Proofs.YtjhkecnnhddhbaaGreatDoor.Ev
open Go.RowKit
set_option maxRecDepth 100000
theorem firstE_zero {f : Int × Int → Int} {l : List (Int × Int)} (h : firstE f l = 0) : ∀ p ∈ l, f p = 0 := by
 induction l with
 | nil => intro p hp; cases hp
 | cons q t ih =>
   simp only [firstE] at h
   by_cases hq : f q = 0
   · rw [if_neg (by simp [hq])] at h
     intro p hp
     rcases List.mem_cons.1 hp with rfl | hp
     · exact hq
     · exact ih h p hp
   · rw [if_pos hq] at h
     exact absurd h hq
theorem pairs_zero {ns : List Nd} {is xs : List (Int × Int)} (h : pairsE ns is xs = 0) : (∀ p ∈ is, initE ns p = 0) ∧ (∀ p ∈ xs, pairE ns p.1 p.2 = 0) ∧ dup (fsts is) = false ∧ dup (fsts xs) = false := by
 unfold pairsE at h
 by_cases h1 : firstE (initE ns) is = 0
 · rw [if_neg (by simp [h1])] at h
   by_cases h2 : firstE (nextE ns) xs = 0
   · rw [if_neg (by simp [h2])] at h
     by_cases h3 : (dup (fsts is) || dup (fsts xs)) = true
     · rw [if_pos h3] at h; omega
     · simp only [Bool.or_eq_true, not_or, Bool.not_eq_true] at h3
       exact ⟨firstE_zero h1, firstE_zero h2, h3.1, h3.2⟩
   · rw [if_pos h2] at h; exact absurd h h2
 · rw [if_pos h1] at h; exact absurd h h1
theorem check_zero {ns : List Nd} {is xs : List (Int × Int)} {bs hs : List Int} (h : checkE ns is xs bs hs = 0) :
   (ns.length ≤ 80 ∧ bs.length ≤ 8 ∧ hs.length ≤ 8) ∧ firstN (nodeAtE ns) ns.length = 0 ∧ pairsE ns is xs = 0 ∧ marksE ns xs bs hs = 0 := by
 unfold checkE at h
 by_cases h1 : 80 < ns.length ∨ 8 < bs.length ∨ 8 < hs.length
 · rw [if_pos h1] at h; omega
 rw [if_neg h1] at h
 by_cases h2 : firstN (nodeAtE ns) ns.length = 0
 · rw [if_neg (by simp [h2])] at h
   by_cases h3 : 6 < sumW ns (sel (isK ns 2) ns.length) ∨ 10 < sumW ns (sel (isK ns 3) ns.length)
   · rw [if_pos h3] at h; omega
   rw [if_neg h3] at h
   by_cases h4 : pairsE ns is xs = 0
   · rw [if_neg (by simp [h4])] at h
     exact ⟨by omega, h2, h4, h⟩
   · rw [if_pos h4] at h; exact absurd h h4
 · rw [if_pos h2] at h; exact absurd h h2
end Go.Proofs.YtjhkecnnhddhbaaGreatDoor.Ev

namespace Go.Proofs.YtjhkecnnhddhbaaGreatDoor.Ev
open Go.RowKit
set_option maxRecDepth 100000
theorem nat_lt_two {x : Nat} {v : Int} (h : x < 2 ^ v.toNat) : isW (x : Int) v = true := isW_iff.2 ⟨by omega, by rw [two_nat]; exact_mod_cast h⟩
theorem lt_nat {a v : Int} (h : isW a v = true) : a.toNat < 2 ^ v.toNat := by
 have := isW_iff.1 h
 rw [two_nat] at this
 omega
theorem emod_isW (x v : Int) : isW (x % two v) v = true := isW_iff.2 ⟨Int.emod_nonneg _ (by have := two_pos v; omega), Int.emod_lt_of_pos _ (two_pos v)⟩
theorem made_isW {k v a b c n wa wb wc : Int} (hfit : fitE k v n wa wb wc = 0) (ha : isW a wa = true) (hb : isW b wb = true) (hc : isW c wc = true) : isW (madeE k v a b c n wa wb) v = true := by
 obtain ⟨hv, hr, hok, hn, hk⟩ := fit_zero hfit
 have h0 := isW_iff.1 ha
 have h1 := isW_iff.1 hb
 have tv := two_pos v
 rcases kinds20 hk with rfl | rfl | rfl | rfl | rfl | rfl | rfl | rfl | rfl | rfl | rfl | rfl | rfl | rfl | rfl | rfl | rfl | rfl | rfl | rfl
 all_goals simp only [okOf] at hok
 all_goals simp only [madeE]
 · obtain rfl : wa = v := by simpa using hok
   refine isW_iff.2 ?_
   simp only [if_pos]
   omega
 · exact emod_isW _ _
 · obtain ⟨rfl, rfl⟩ : wa = v ∧ wb = wa := by simp at hok; omega
   exact nat_lt_two (Nat.lt_of_le_of_lt Nat.and_le_left (lt_nat ha))
 · obtain ⟨rfl, rfl⟩ : wa = v ∧ wb = wa := by simp at hok; omega
   exact nat_lt_two (Nat.or_lt_two_pow (lt_nat ha) (lt_nat hb))
 · obtain ⟨rfl, rfl⟩ : wa = v ∧ wb = wa := by simp at hok; omega
   exact nat_lt_two (Nat.xor_lt_two_pow (lt_nat ha) (lt_nat hb))
 · exact emod_isW _ _
 · exact emod_isW _ _
 · exact emod_isW _ _
 · obtain ⟨rfl, rfl⟩ : wa = v ∧ wb = wa := by simp at hok; omega
   have e1 := Int.ediv_nonneg h0.1 h1.1
   have e2 := Int.ediv_le_self b h0.1
   refine isW_iff.2 ?_
   simp
   split <;> omega
 · obtain ⟨rfl, rfl⟩ : wa = v ∧ wb = wa := by simp at hok; omega
   refine isW_iff.2 ?_
   simp
   split
   · omega
   · have e1 := Int.emod_nonneg a (show b ≠ 0 from by assumption)
     have e2 := Int.emod_lt_of_pos a (show 0 < b from by omega)
     omega
 · simp
   split
   · exact isW_iff.2 ⟨by omega, tv⟩
   · exact emod_isW _ _
 · obtain ⟨rfl, rfl⟩ : wa = v ∧ wb = wa := by simp at hok; omega
   have tb := two_pos b
   have e1 := Int.ediv_nonneg h0.1 (show 0 ≤ two b from by omega)
   have e2 := Int.ediv_le_self (two b) h0.1
   refine isW_iff.2 ?_
   simp
   split <;> omega
 · obtain ⟨_, rfl⟩ : wa = wb ∧ v = 1 := by simpa using hok
   simp [yesOf]
   split <;> decide
 · obtain ⟨_, rfl⟩ : wa = wb ∧ v = 1 := by simpa using hok
   simp [yesOf]
   split <;> decide
 · obtain ⟨_, rfl⟩ : wa = wb ∧ v = 1 := by simpa using hok
   simp [yesOf]
   split <;> decide
 · obtain ⟨⟨_, rfl⟩, rfl⟩ : (wa = 1 ∧ wb = v) ∧ wc = wb := by simp at hok; omega
   simp
   split
   · exact hb
   · exact hc
 · obtain rfl : wa + wb = v := by simpa using hok
   obtain ⟨wa0, wb0, _⟩ := rng_bd hr
   have e : two (wa + wb) = two wa * two wb := by
     unfold two
     rw [Int.toNat_add (by omega) (by omega), Int.pow_add]
   have hm := Int.mul_le_mul_of_nonneg_right (show a ≤ two wa - 1 from by omega) (show 0 ≤ two wb from by omega)
   have hp := Int.mul_nonneg h0.1 (show 0 ≤ two wb from by omega)
   refine isW_iff.2 ?_
   simp
   rw [e]
   rw [Int.sub_mul] at hm
   omega
 · exact emod_isW _ _
 · have hle : wa ≤ v := by simpa using hok
   obtain ⟨wa0, _, _⟩ := rng_bd hr
   have := two_mono wa v (by omega) hle
   refine isW_iff.2 ?_
   simp
   omega
 · exact emod_isW _ _
def ahead (ns : List Nd) (kind : Int) (k : Nat) : Nat := (sel (isK ns kind) k).length
def opv (vs : List Int) (t i x : Int) : Int := if i < t then vs.getD x.toNat 0 else 0
def valAt (ns : List Nd) (sts ins vs : List Int) (k : Nat) : Int :=
 match ns[k]? with
 | none => 0
 | some x => if x.kind = 1 then x.n else if x.kind = 2 then ins.getD (ahead ns 2 k) 0 else if x.kind = 3 then sts.getD (ahead ns 3 k) 0
   else madeE x.kind x.width (opv vs (takes x.kind) 0 x.a) (opv vs (takes x.kind) 1 x.b) (opv vs (takes x.kind) 2 x.c) x.n (wds ns (takes x.kind) 0 x.a) (wds ns (takes x.kind) 1 x.b)
def vals (ns : List Nd) (sts ins : List Int) : Nat → List Int
 | 0 => []
 | k + 1 => vals ns sts ins k ++ [valAt ns sts ins (vals ns sts ins k) k]
theorem vals_len (ns : List Nd) (sts ins : List Int) (k : Nat) : (vals ns sts ins k).length = k := by
 induction k with
 | zero => rfl
 | succ k ih => simp [vals, ih]
def wordsE (ns : List Nd) (kind : Int) (l : List Int) : Int :=
 if l.length ≠ (sel (isK ns kind) ns.length).length then 2
 else if (List.range l.length).any (fun i => !isW (l.getD i 0) (wdOf ns ((sel (isK ns kind) ns.length).getD i 0))) then 3 else 0
theorem sel_prefix (f : Nat → Bool) {k n : Nat} (h : k ≤ n) : (sel f k) <+: (sel f n) := by
 induction n with
 | zero => obtain rfl : k = 0 := by omega
           exact List.prefix_refl _
 | succ n ih =>
   rcases Nat.lt_or_ge k (n + 1) with h1 | h1
   · refine List.IsPrefix.trans (ih (by omega)) ?_
     cases hf : f n
     · rw [sel_no hf]; exact List.prefix_refl _
     · rw [sel_yes hf]; exact List.prefix_append _ _
   · obtain rfl : k = n + 1 := by omega
     exact List.prefix_refl _
theorem sel_place {f : Nat → Bool} {k n : Nat} (hk : k < n) (hf : f k = true) : (sel f k).length < (sel f n).length ∧ (sel f n).getD (sel f k).length 0 = (k : Int) := by
 have h := sel_prefix f (show k + 1 ≤ n from hk)
 rw [sel_yes hf] at h
 obtain ⟨t, ht⟩ := h
 rw [← ht]
 constructor
 · simp
 · simp [List.getD]
theorem words_zero {ns : List Nd} {kind : Int} {l : List Int} (h : wordsE ns kind l = 0) : l.length = (sel (isK ns kind) ns.length).length ∧ ∀ k, k < ns.length → isK ns kind k = true → ahead ns kind k < l.length ∧ isW (l.getD (ahead ns kind k) 0) (wdOf ns k) = true := by
 unfold wordsE at h
 by_cases h1 : l.length = (sel (isK ns kind) ns.length).length
 · rw [if_neg (by simp [h1])] at h
   refine ⟨h1, fun k hk hf => ?_⟩
   obtain ⟨p1, p2⟩ := sel_place hk hf
   have hlt : ahead ns kind k < l.length := by unfold ahead; omega
   refine ⟨hlt, ?_⟩
   by_cases h2 : (List.range l.length).any (fun i => !isW (l.getD i 0) (wdOf ns ((sel (isK ns kind) ns.length).getD i 0))) = true
   · rw [if_pos h2] at h; omega
   · have := List.any_eq_false.1 ((Bool.not_eq_true _).mp h2) (ahead ns kind k) (List.mem_range.2 hlt)
     rw [show (sel (isK ns kind) ns.length).getD (ahead ns kind k) 0 = (k : Int) from p2] at this
     simpa using this
 · rw [if_pos h1] at h; omega
end Go.Proofs.YtjhkecnnhddhbaaGreatDoor.Ev

namespace Go.Proofs.YtjhkecnnhddhbaaGreatDoor.Ev
open Go.RowKit
set_option maxRecDepth 100000
theorem op_isW {ns : List Nd} {vs : List Int} {t i x : Int} (h : i < t → isW (vs.getD x.toNat 0) (wdOf ns x) = true) : isW (opv vs t i x) (wds ns t i x) = true := by
 unfold opv wds
 by_cases hi : i < t
 · rw [if_pos hi, if_pos hi]; exact h hi
 · rw [if_neg hi, if_neg hi]; decide
theorem opE_fit {ns : List Nd} {i : Nat} {x : Nd} (h : opE ns i x = 0) : fitE x.kind x.width x.n (wds ns (takes x.kind) 0 x.a) (wds ns (takes x.kind) 1 x.b) (wds ns (takes x.kind) 2 x.c) = 0 := by
 unfold opE at h
 split at h
 · omega
 · exact h
theorem opE_in {ns : List Nd} {i : Nat} {x : Nd} (h : opE ns i x = 0) : (0 < takes x.kind → 0 ≤ x.a ∧ x.a < i) ∧ (1 < takes x.kind → 0 ≤ x.b ∧ x.b < i) ∧ (2 < takes x.kind → 0 ≤ x.c ∧ x.c < i) ∧ (takes x.kind < 2 → x.b = 0) ∧ (takes x.kind < 3 → x.c = 0) := by
 unfold opE at h
 by_cases hb : (badOn (takes x.kind) 0 i x.a || badOn (takes x.kind) 1 i x.b || badOn (takes x.kind) 2 i x.c) = true
 · rw [if_pos hb] at h; omega
 · simp only [Bool.or_eq_true, not_or, Bool.not_eq_true] at hb
   obtain ⟨⟨h0, h1⟩, h2⟩ := hb
   refine ⟨fun ht => bad_false h0 ht, fun ht => bad_false h1 ht, fun ht => bad_false h2 ht, fun ht => ?_, fun ht => ?_⟩
   · unfold badOn at h1
     rw [if_neg (by omega)] at h1
     simpa using h1
   · unfold badOn at h2
     rw [if_neg (by omega)] at h2
     simpa using h2
theorem vals_at (ns : List Nd) (sts ins : List Int) {k n : Nat} (h : k < n) : (vals ns sts ins n).getD k 0 = valAt ns sts ins (vals ns sts ins k) k := by
 induction n with
 | zero => omega
 | succ n ih =>
   have hl := vals_len ns sts ins n
   simp only [vals, List.getD, List.getElem?_append]
   rcases Nat.lt_succ_iff_lt_or_eq.1 h with h1 | rfl
   · rw [if_pos (by omega)]
     exact ih h1
   · rw [if_neg (by omega), hl]
     simp
theorem vals_isW {ns : List Nd} {sts ins : List Int} (hn : firstN (nodeAtE ns) ns.length = 0) (hs : wordsE ns 3 sts = 0) (hi : wordsE ns 2 ins = 0) :
   ∀ k, k < ns.length → isW (valAt ns sts ins (vals ns sts ins k) k) (wdOf ns k) = true := by
 intro k
 induction k using Nat.strongRecOn with
 | ind k ih =>
   intro hk
   have hnode := firstN_zero.1 hn k hk
   rw [nodeAtE_at hk] at hnode
   obtain ⟨hw, hkd, _, h4, hlf⟩ := node_zero hnode
   have hwd : wdOf ns k = ns[k].width := by unfold wdOf; rw [Int.toNat_natCast, List.getElem?_eq_getElem hk]
   unfold valAt
   rw [List.getElem?_eq_getElem hk]
   simp only
   by_cases k1 : ns[k].kind = 1
   · rw [if_pos k1, hwd]
     have := hlf (by omega)
     unfold leafE at this
     by_cases hW : isW ns[k].n ns[k].width = true
     · exact hW
     · rw [if_pos ⟨k1, (Bool.not_eq_true _).mp hW⟩] at this
       omega
   · rw [if_neg k1]
     by_cases k2 : ns[k].kind = 2
     · rw [if_pos k2]
       exact ((words_zero hi).2 k hk (by rw [isK_at hk, k2]; rfl)).2
     · rw [if_neg k2]
       by_cases k3 : ns[k].kind = 3
       · rw [if_pos k3]
         exact ((words_zero hs).2 k hk (by rw [isK_at hk, k3]; rfl)).2
       · rw [if_neg k3, hwd]
         have hop := h4 (by omega)
         obtain ⟨i0, i1, i2, _, _⟩ := opE_in hop
         have key : ∀ x : Int, 0 ≤ x ∧ x < k → isW ((vals ns sts ins k).getD x.toNat 0) (wdOf ns x) = true := by
           intro x hx
           rw [vals_at ns sts ins (show x.toNat < k by omega)]
           have := ih x.toNat (by omega) (by omega)
           rwa [show ((x.toNat : Nat) : Int) = x by omega] at this
         exact made_isW (opE_fit hop) (op_isW (fun h => key _ (i0 h))) (op_isW (fun h => key _ (i1 h))) (op_isW (fun h => key _ (i2 h)))
theorem wordsE_hit {ns : List Nd} {kind : Int} {l : List Int} (hl : l.length = (sel (isK ns kind) ns.length).length) {k : Nat} (hk : k < l.length) (h : isW (l.getD k 0) (wdOf ns ((sel (isK ns kind) ns.length).getD k 0)) = false) : wordsE ns kind l = 3 := by
 unfold wordsE
 rw [if_neg (by simp [hl]), if_pos (List.any_eq_true.2 ⟨k, List.mem_range.2 hk, by rw [h]; rfl⟩)]
theorem wordsE_ok {ns : List Nd} {kind : Int} {l : List Int} (hl : l.length = (sel (isK ns kind) ns.length).length) (h : ∀ k, k < l.length → isW (l.getD k 0) (wdOf ns ((sel (isK ns kind) ns.length).getD k 0)) = true) : wordsE ns kind l = 0 := by
 unfold wordsE
 rw [if_neg (by simp [hl]), if_neg]
 rw [Bool.not_eq_true, List.any_eq_false]
 intro i hi
 rw [h i (List.mem_range.1 hi)]
 simp
theorem getD_at {l : List Int} {k : Nat} (h : k < l.length) : l.getD k 0 = l[k] := by simp [List.getD, List.getElem?_eq_getElem h]
set_option maxRecDepth 100000 in
set_option maxHeartbeats 2000000 in
theorem fitW_any (m : Mv) (ns : List Nd) (hl : ns.length ≤ 80) (hW : Wok ns) (kind : Int) (l : List Int) (p : Option Addr) (cap : Nat) (hll : l.length ≤ maxLen) (w : World) (hN : NodesAt w m.a0 ns) (hI : IntsAt w p l) :
   Calls Tryz.prog 136 #[m.val ns.length, .int .i64 kind, .slice p l.length cap] w fun e w' => e = .returned (.int .i64 (wordsE ns kind l)) ∧ Below w.heap.size w w' := by
 obtain ⟨a0, c0, a1, l1, c1, a2, l2, c2, a3, l3, c3, a4, l4, c4⟩ := m
 simp only at hN
 unfold maxLen at hll
 have HW := hide hW
 have HI := hide hI
 have HN := hide hN
 have HBx := hide (Box.new w ⟨a0, c0, a1, l1, c1, a2, l2, c2, a3, l3, c3, a4, l4, c4⟩ ns.length)
 have HB0 : Hid (Below w.heap.size w (w.alloc (.cells (Mv.cells ⟨a0, c0, a1, l1, c1, a2, l2, c2, a3, l3, c3, a4, l4, c4⟩ ns.length) 65))) := bal (Below.refl _ _) _
 have HK := hide (fun _ : Unit => ofKind_any a0 c0 ns (by omega) kind _ (hN.later HB0.out))
 have HBD : Hid (∀ k (h : k < (sel (isK ns kind) ns.length).length), 0 ≤ (sel (isK ns kind) ns.length)[k] ∧ (sel (isK ns kind) ns.length)[k] < ns.length) := fun k h => sel_bd h
 have hsl := sel_len (isK ns kind) ns.length
 have HH := hide (@wordsE_hit ns kind l)
 have HO := hide (@wordsE_ok ns kind l)
 have HM : Hid (l.length ≠ (sel (isK ns kind) ns.length).length → wordsE ns kind l = 2) := fun h => by unfold wordsE; rw [if_pos h]
 clear hN hI hW
 generalize sel (isK ns kind) ns.length = S at *
 generalize wordsE ns kind l = we at *
 go_enter Tryz.func136, Tryz.ntmps136
 go_wp2_with fail
 refine (HK.out ()).mono ?_
 rintro e w1 ⟨q, qc, rfl, hQ, hb1⟩
 have HB1 := hide (bthen HB0.out hb1)
 have HX1 := hide (HBx.out.later hb1)
 have HQ := hide hQ
 have q0 := HX1.out.1
 clear hb1 hQ HB0 HBx HK
 by_cases hlen : l.length = S.length
 · have hne : ((l.length : Int) != (S.length : Int)) = false := by simp [hlen]
   have HL := hide hlen
   clear hlen HM
   go_wp2
   go_loopw [21] (fun i wr => ∃ k : Nat, k ≤ S.length ∧ i = .int .i64 k ∧ Below w1.heap.size w1 wr ∧ Hid (∀ i, i < k → isW (l.getD i 0) (wdOf ns (S.getD i 0)) = true)) (fun i _ => S.length - (intOf i).toNat)
   case atStart => exact ⟨0, Nat.zero_le _, rfl, Below.refl _ _, fun i hi => by omega⟩
   case round =>
     obtain ⟨k, hk, rfl, hbw, hz⟩ := hrel
     clear q0
     have q0 := cell_later hbw HX1.out.1
     by_cases hlt : k < S.length
     · have hlt2 : k < l.length := by have := HL.out; omega
       obtain ⟨b, off, rfl, hc⟩ := (HQ.out.later hbw) (by omega)
       obtain ⟨b2, off2, rfl, hc2⟩ := (HI.out.later (bthen HB1.out hbw)) (by omega)
       have d0 := hc k hlt
       have d1 := hc2 k hlt2
       have hkl : (k : Int) < (S.length : Int) := by omega
       have hkl2 : (k : Int) < (l.length : Int) := by omega
       obtain ⟨s0, s1⟩ := HBD.out k hlt
       have HY : Hid (isW l[k] (wdOf ns S[k]) = false → we = 3) := fun h => HH.out HL.out hlt2 (by rw [getD_at hlt2, getD_at hlt]; exact h)
       have HZ : Hid (isW l[k] (wdOf ns S[k]) = true → ∀ i, i < k + 1 → isW (l.getD i 0) (wdOf ns (S.getD i 0)) = true) := by
         intro h i hik
         rcases Nat.lt_succ_iff_lt_or_eq.1 hik with h1 | rfl
         · exact hz.out i h1
         · rw [getD_at hlt2, getD_at hlt]; exact h
       clear hc hc2 hz
       generalize l[k] = x at *
       generalize S[k] = s at *
       obtain ⟨nb, noff, rfl, hnc⟩ := (HN.out.later (bthen HB1.out hbw)) (by omega)
       have k2 := (kd_wd hnc s s0 s1).2
       have HBT := hide (fun w => isWord_any x (wdOf ns s) (wdOf_bd HW.out s) w)
       clear hnc
       generalize wdOf ns s = wd at *
       cases hxb : isW x wd
       · have HE := hide (HY.out hxb)
         rw [hxb] at HBT
         clear HY HZ hxb
         go_wp2
         go_quiet (first | (go_at_call 133; exact Calls.quiet_of_same (HBT.out _)))
         go_wp2
         go_ret
         exact ⟨ret_int HE.out.symm, below_drewN (bthen HB1.out hbw) _⟩
       · have HZ2 := hide (HZ.out hxb)
         rw [hxb] at HBT
         clear HY HZ hxb
         go_wp2
         go_quiet (first | (go_at_call 133; exact Calls.quiet_of_same (HBT.out _)))
         go_wp2
         go_roundw
         case rel => first | exact ⟨k + 1, by omega, by go_num, below_drewN hbw _, HZ2⟩ | ((repeat apply Exists.intro); exact ⟨⟨k + 1, by omega, by go_num, below_drewN hbw _, HZ2⟩, rfl⟩)
         case measure => simp [intOf]; omega
     · have HE : Hid (we = 0) := HO.out HL.out (fun i hi => hz.out i (by have := HL.out; omega))
       clear hz
       go_wp2
       go_ret
       exact ⟨ret_int HE.out.symm, bthen HB1.out hbw⟩
 · have hne : ((l.length : Int) != (S.length : Int)) = true := by simp; omega
   have HE := hide (HM.out hlen)
   clear hlen HM
   go_wp2
   go_ret
   exact ⟨ret_int HE.out.symm, HB1.out⟩
end Go.Proofs.YtjhkecnnhddhbaaGreatDoor.Ev
