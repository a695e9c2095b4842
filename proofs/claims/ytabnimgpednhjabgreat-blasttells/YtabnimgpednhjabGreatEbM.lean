import Derived.Test.YtabnimgpednhjabGreatMnM
import Derived.Test.YtabnimgpednhjabGreatNc
import Derived.Laws.AppendOwnNone
import Derived.Lib.SliceRun
import Derived.Test.YtabnimgpednhjabGreatNaM
namespace Go.Proofs.YtabnimgpednhjabGreat
open Go.RowKit
set_option maxRecDepth 100000
set_option maxHeartbeats 1000000 in
theorem nodesR_any (m : Mv) (ns : List Nd) (hl : ns.length ≤ 2932031007402) (kind : Int) (w : World) (hN : NodesAt w m.a0 ns) :
   Calls Tryz.prog 21 #[m.val ns.length, .int .i64 kind] w fun e w' =>
     ∃ p cap, e = .returned (.slice p (sel (isK ns kind) ns.length).length cap) ∧ IntsAt w' p (sel (isK ns kind) ns.length) ∧ Below w.heap.size w w' := by
 obtain ⟨i0, hi, hz0, hz1, hz2⟩ := info_parts info3
 obtain ⟨a0, c0, a1, l1, c1, a2, l2, c2, a3, l3, c3, a4, l4, c4⟩ := m
 simp only at hN
 have HBx := hide (Box.new w ⟨a0, c0, a1, l1, c1, a2, l2, c2, a3, l3, c3, a4, l4, c4⟩ ns.length)
 go_enter Tryz.func21, Tryz.ntmps21
 go_wp2
 go_loopw [5, 6] (fun v i wr => ∃ k : Nat, k ≤ ns.length ∧ i = .int .i64 k ∧ wr.ownsRow (w.heap.size + 1) 3 1 v (sel (isK ns kind) k).length ((sel (isK ns kind) k).map (Value.int .i64)) ∧ Below (w.heap.size + 1) (w.alloc (.cells (Mv.cells ⟨a0, c0, a1, l1, c1, a2, l2, c2, a3, l3, c3, a4, l4, c4⟩ ns.length) 35)) wr) (fun _ i _ => ns.length - (intOf i).toNat)
 case atStart => exact ⟨0, Nat.zero_le _, rfl, World.ownsRow_nil _ _ _ _, Below.refl _ _⟩
 case round =>
   obtain ⟨k, hk, rfl, hown, hnx⟩ := hrel
   have hbw : Below w.heap.size w wr := (bal (Below.refl _ _) _).trans (hnx.mono (by omega))
   have hsz := hnx.size
   have hbx := HBx.out.1
   have q0 : wr.cell? ⟨w.heap.size, 0, none⟩ = some (.slice a0 ns.length c0) := (hnx.cell (show w.heap.size < w.heap.size + 1 from by omega)).trans hbx
   clear hbx
   by_cases hlt : k < ns.length
   · obtain ⟨b, off, rfl, hc⟩ := (hN.later hbw) (by omega)
     have d0 := (hc k hlt).1
     have HI := hide (isK_at (kind := kind) hlt)
     clear hc
     generalize ns[k] = nd at *
     obtain ⟨kd, v, x, y, z, n⟩ := nd
     simp only at *
     cases hf : (kd == kind)
     · have HS : Hid (sel (isK ns kind) (k + 1) = sel (isK ns kind) k) := sel_no (by rw [HI.out, hf])
       clear HI
       go_wp2
       go_roundw
       case rel => exact ⟨k + 1, by omega, by go_num, by rw [HS.out]; exact hown, hnx⟩
       case measure => simp [intOf]; omega
     · have HS : Hid (sel (isK ns kind) (k + 1) = sel (isK ns kind) k ++ [(k : Int)]) := sel_yes (by rw [HI.out, hf])
       have hsl := sel_len (isK ns kind) k
       clear HI
       generalize sel (isK ns kind) k = l at *
       go_wp2_with (at_builtin; refine wpList_append_own _ rfl _ _ 25 rfl (w.heap.size + 1) 3 i0 (.int .i64 0) 1 8 Tryz.underlying25 hi hz0 hz1 hz2 rfl (by decide) _ _ _ rfl (hown.alloc _) ⟨wr.heap.size, 0, none⟩ 1 1 [.int .i64 (k : Int)] rfl rfl ?c1 ?c2 ?c3 ?c4 ?c5 ?_)
       case c1 =>
         intro j u hj
         match j, hj with
         | 0, hj => simp at hj; subst hj; simp [Addr.add]
       case c2 => intro u hu; simp at hu; subst hu; rfl
       case c3 => unfold maxLen; omega
       case c4 => omega
       case c5 => simp; simp at hsz; omega
       intro v' w1 hown' hgrow _
       have R := owns_later hown hown' hgrow hnx (by simp at hsz; omega)
       rw [← HS.out] at R
       clear hown' hgrow hown
       go_wp2
       go_roundw
       case rel => exact ⟨k + 1, by omega, by go_num, R.1, R.2⟩
       case measure => simp [intOf]; omega
   · obtain rfl : k = ns.length := by omega
     obtain ⟨p, cap, rfl, hI⟩ := owns_ints hown
     go_wp2
     go_ret
     exact ⟨p, cap, rfl, hI, hbw⟩
theorem sum_sel (ns : List Nd) (kind : Int) (k : Nat) : sumW ns (sel (isK ns kind) (k + 1)) = sumW ns (sel (isK ns kind) k) + if isK ns kind k then wdOf ns k else 0 := by
 cases h : isK ns kind k
 · rw [sel_no h]; simp
 · rw [sel_yes h]
   unfold sumW
   simp only [List.map_append, List.sum_append, List.map_cons, List.map_nil, List.sum_cons, List.sum_nil]
   simp
theorem sum_sel_bd {ns : List Nd} (h : Wok ns) (kind : Int) (k : Nat) : 0 ≤ sumW ns (sel (isK ns kind) k) ∧ sumW ns (sel (isK ns kind) k) ≤ 8 * k := by
 induction k with
 | zero => simp [sumW, sel]
 | succ k ih =>
   rw [sum_sel]
   have := wdOf_bd h k
   split <;> omega
set_option maxHeartbeats 1000000 in
theorem bitsR_any (m : Mv) (ns : List Nd) (hl : ns.length ≤ 80) (hW : Wok ns) (kind : Int) (w : World) (hN : NodesAt w m.a0 ns) :
   Calls Tryz.prog 11 #[m.val ns.length, .int .i64 kind] w fun e w' => e = .returned (.int .i64 (sumW ns (sel (isK ns kind) ns.length))) ∧ Below w.heap.size w w' := by
 obtain ⟨a0, c0, a1, l1, c1, a2, l2, c2, a3, l3, c3, a4, l4, c4⟩ := m
 simp only at hN
 have HW := hide hW
 have HBx := hide (Box.new w ⟨a0, c0, a1, l1, c1, a2, l2, c2, a3, l3, c3, a4, l4, c4⟩ ns.length)
 have hb0 : Below w.heap.size w (w.alloc (.cells (Mv.cells ⟨a0, c0, a1, l1, c1, a2, l2, c2, a3, l3, c3, a4, l4, c4⟩ ns.length) 35)) := bal (Below.refl _ _) _
 have HB0 := hide hb0
 clear hW hb0
 go_enter Tryz.func11, Tryz.ntmps11
 go_wp2
 go_loopw [5, 6] (fun s i wr => ∃ k : Nat, k ≤ ns.length ∧ i = .int .i64 k ∧ s = .int .i64 (sumW ns (sel (isK ns kind) k)) ∧ Below w.heap.size w wr ∧ wr.cell? ⟨w.heap.size, 0, none⟩ = some (.slice a0 ns.length c0)) (fun _ i _ => ns.length - (intOf i).toNat)
 case atStart => exact ⟨0, Nat.zero_le _, rfl, rfl, HB0.out, HBx.out.1⟩
 case round =>
   obtain ⟨k, hk, rfl, rfl, hbw, q0⟩ := hrel
   by_cases hlt : k < ns.length
   · obtain ⟨b, off, rfl, hc⟩ := (hN.later hbw) (by omega)
     have hkw := kd_wd hc (k : Int) (by omega) (by omega)
     simp only [Int.toNat_natCast] at hkw
     obtain ⟨d0, d1⟩ := hkw
     have HI : Hid (isK ns kind k = (kdOf ns k == kind)) := by
       unfold isK kdOf
       rw [Int.toNat_natCast, List.getElem?_eq_getElem hlt]
       rfl
     have HS := hide (sum_sel ns kind k)
     have hsb := sum_sel_bd HW.out kind k
     have hwb := wdOf_bd HW.out (k : Int)
     clear hc
     generalize kdOf ns k = kd at *
     generalize wdOf ns k = wd at *
     cases hf : (kd == kind)
     · have HS2 : Hid (sumW ns (sel (isK ns kind) (k + 1)) = sumW ns (sel (isK ns kind) k)) := by rw [HS.out, HI.out, hf]; simp [Hid]
       clear HS HI
       go_wp2
       go_roundw
       case rel => exact ⟨k + 1, by omega, by go_num, by rw [HS2.out], hbw, q0⟩
       case measure => simp [intOf]; omega
     · have HS2 : Hid (sumW ns (sel (isK ns kind) (k + 1)) = sumW ns (sel (isK ns kind) k) + wd) := by rw [HS.out, HI.out, hf]; simp [Hid]
       clear HS HI
       go_wp2
       go_roundw
       case rel => exact ⟨k + 1, by omega, by go_num, by rw [HS2.out], hbw, q0⟩
       case measure => simp [intOf]; omega
   · obtain rfl : k = ns.length := by omega
     go_wp2
     go_ret
     exact ⟨rfl, hbw⟩
end Go.Proofs.YtabnimgpednhjabGreat

namespace Go.Proofs.YtabnimgpednhjabGreat
open Go.RowKit
set_option maxRecDepth 100000
theorem checkNodeR_any (p : Option Addr) (cap : Nat) (ns : List Nd) (hl : ns.length ≤ 80) (i : Nat) (hi : i < ns.length) (w : World) (hN : NodesAt w p ns) :
   Calls Tryz.prog 37 #[.slice p ns.length cap, .int .i64 i] w fun e w' => e = .returned (.int .i64 (nodeE ns i ns[i])) ∧ Below w.heap.size w w' := by
 by_cases hk : btw ns[i].kind 1 23 = true
 · by_cases hv : btw ns[i].width 1 8 = true
   · have hk2 := btw_true.1 hk
     by_cases h4 : 4 ≤ ns[i].kind
     · rcases takes_op h4 hk2.2 with ht | ht | ht
       · exact checkNodeR_op1 p cap ns hl i hi w hN h4 hk2.2 hv ht
       · exact checkNodeR_op2 p cap ns hl i hi w hN h4 hk2.2 hv ht
       · exact checkNodeR_op3 p cap ns hl i hi w hN h4 hk2.2 hv ht
     · have h3 : ns[i].kind = 1 ∨ ns[i].kind = 2 ∨ ns[i].kind = 3 := by omega
       rcases h3 with h | h | h
       · exact checkNodeR_1 p cap ns hl i hi w hN h hv
       · exact checkNodeR_2 p cap ns hl i hi w hN h hv
       · exact checkNodeR_3 p cap ns hl i hi w hN h hv
   · exact checkNodeR_bad p cap ns hl i hi w hN (.inr (by simpa using hv))
 · exact checkNodeR_bad p cap ns hl i hi w hN (.inl (by simpa using hk))
set_option maxHeartbeats 1000000 in
theorem inputs_any (a0 a1 a2 a3 a4 : Option Addr) (c0 c1 c2 c3 c4 : Nat) (ns : List Nd) (is xs : List (Int × Int)) (bs hs : List Int) (hln : ns.length ≤ 2932031007402) (hli : is.length ≤ 8796093022208) (hlx : xs.length ≤ 8796093022208) (hlb : bs.length ≤ maxLen) (hlh : hs.length ≤ maxLen) (w : World)
   (hN : NodesAt w a0 ns) (hI : PairsAt w a1 is) (hX : PairsAt w a2 xs) (hBs : IntsAt w a3 bs) (hHs : IntsAt w a4 hs) :
   Calls Tryz.prog 80 #[Mv.val ⟨a0, c0, a1, is.length, c1, a2, xs.length, c2, a3, bs.length, c3, a4, hs.length, c4⟩ ns.length] w fun e w' =>
     ∃ p cap l, e = .returned (.tuple #[.slice p l.length cap, .int .i64 (checkE ns is xs bs hs)]) ∧ l = (if checkE ns is xs bs hs = 0 then sel (isK ns 2) ns.length else []) ∧ IntsAt w' p l ∧ Below w.heap.size w w' := by
 have HB0 : Hid (Below w.heap.size w (w.alloc (.cells (Mv.cells ⟨a0, c0, a1, is.length, c1, a2, xs.length, c2, a3, bs.length, c3, a4, hs.length, c4⟩ ns.length) 35))) := bal (Below.refl _ _) _
 have HBx := hide (Box.new w ⟨a0, c0, a1, is.length, c1, a2, xs.length, c2, a3, bs.length, c3, a4, hs.length, c4⟩ ns.length)
 have HK := hide (fun _ : Unit => check_any a0 a1 a2 a3 a4 c0 c1 c2 c3 c4 ns is xs bs hs (by unfold maxLen; omega) hli hlx hlb hlh _ (hN.later HB0.out) (hI.later HB0.out) (hX.later HB0.out) (hBs.later HB0.out) (hHs.later HB0.out))
 generalize checkE ns is xs bs hs = ce at *
 go_enter Tryz.func80, Tryz.ntmps80
 go_wp2_with fail
 refine (HK.out ()).mono ?_
 rintro e w1 ⟨rfl, hb1⟩
 have hbw := bthen HB0.out hb1
 have HBB := hide (HBx.out.later hb1)
 have hbox := HBB.out
 simp only [Box] at hbox
 obtain ⟨q0, q1, q2, q3, q4⟩ := hbox
 by_cases hce : ce = 0
 · subst hce
   have HO := hide (fun _ : Unit => ofKind_any a0 c0 ns hln 2 w1 (hN.later hbw))
   go_wp2_with fail
   refine (HO.out ()).mono ?_
   rintro e w2 ⟨p, cap, rfl, hl, hb2⟩
   go_wp2
   go_ret2
   exact ⟨p, cap, _, rfl, by simp, hl, bthen hbw hb2⟩
 · have hne : (ce != 0) = true := by simp [hce]
   have HE := hide hce
   clear hce
   go_wp2
   go_ret2
   exact ⟨none, 0, [], rfl, by first | rfl | rw [if_neg HE.out], fun h => by simp at h, hbw⟩
end Go.Proofs.YtabnimgpednhjabGreat

namespace Go.Proofs.YtabnimgpednhjabGreat
open Go.RowKit
set_option maxRecDepth 100000
theorem sub_len {l r : List Int} (hl : l.Nodup) (hs : ∀ x ∈ l, x ∈ r) : l.length ≤ r.length := by
 induction l generalizing r with
 | nil => simp
 | cons a t ih =>
   have ha : a ∈ r := hs a (by simp)
   have hn := List.nodup_cons.1 hl
   have h1 : t.length ≤ (r.erase a).length := ih hn.2 (fun x hx => (List.mem_erase_of_ne (fun (h : x = a) => hn.1 (h ▸ hx))).2 (hs x (by simp [hx])))
   rw [List.length_erase_of_mem ha] at h1
   have : 0 < r.length := List.length_pos_of_mem ha
   simp only [List.length_cons]
   omega
theorem dup_nodup {l : List Int} (h : dup l = false) : l.Nodup := by
 induction l with
 | nil => simp
 | cons a t ih =>
   simp only [dup, Bool.or_eq_false_iff] at h
   refine List.nodup_cons.2 ⟨?_, ih h.2⟩
   intro hm
   have : t.contains a = true := by simpa using hm
   rw [h.1] at this
   cases this
theorem mem_sel {f : Nat → Bool} {k : Nat} {x : Int} : x ∈ sel f k ↔ ∃ i, i < k ∧ f i = true ∧ x = i := by
 unfold sel
 simp only [List.mem_map, List.mem_filter, List.mem_range]
 constructor
 · rintro ⟨i, ⟨h1, h2⟩, rfl⟩; exact ⟨i, h1, h2, rfl⟩
 · rintro ⟨i, h1, h2, rfl⟩; exact ⟨i, ⟨h1, h2⟩, rfl⟩
theorem sel_rises (f : Nat → Bool) (k : Nat) : (sel f k).Pairwise (· < ·) := by
 induction k with
 | zero => simp [sel]
 | succ k ih =>
   cases h : f k
   · rw [sel_no h]; exact ih
   · rw [sel_yes h, List.pairwise_append]
     refine ⟨ih, by simp, ?_⟩
     intro a ha b hb
     obtain ⟨i, hi, _, rfl⟩ := mem_sel.1 ha
     simp at hb
     omega
theorem sel_nodup (f : Nat → Bool) (k : Nat) : (sel f k).Nodup :=
 (sel_rises f k).imp (fun h => by omega)
theorem isK_kdOf {ns : List Nd} {kind x : Int} (h0 : 0 ≤ x) (h1 : x < ns.length) : isK ns kind x.toNat = (kdOf ns x == kind) := by
 unfold isK kdOf
 rw [List.getElem?_eq_getElem (by omega)]
theorem pigeon {ns : List Nd} {xs : List (Int × Int)} (hx : ∀ p ∈ xs, pairE ns p.1 p.2 = 0) (hd : dup (fsts xs) = false) :
   (xs.length = (sel (isK ns 3) ns.length).length) ↔ ((sel (isK ns 3) ns.length).any (fun s => !hasSt s xs) = false) := by
 have hnd := dup_nodup hd
 have hlen : (fsts xs).length = xs.length := by simp [fsts]
 have hsub : ∀ x ∈ fsts xs, x ∈ sel (isK ns 3) ns.length := by
   intro x h
   unfold fsts at h
   obtain ⟨p, hp, rfl⟩ := List.mem_map.1 h
   obtain ⟨⟨h0, h1⟩, _, hk, _⟩ := pairE_zero (hx p hp)
   refine mem_sel.2 ⟨p.1.toNat, by omega, ?_, by omega⟩
   rw [isK_kdOf h0 h1, hk]; rfl
 have hst : ∀ s, hasSt s xs = true ↔ s ∈ fsts xs := by
   intro s
   unfold hasSt fsts
   simp only [List.any_eq_true, beq_iff_eq, List.mem_map]
 constructor
 · intro he
   refine List.any_eq_false.2 (fun s hs => ?_)
   have : hasSt s xs = true := by
     rw [hst]
     refine Classical.byContradiction fun hno => ?_
     have := sub_len (l := s :: fsts xs) (r := sel (isK ns 3) ns.length) (List.nodup_cons.2 ⟨hno, hnd⟩) (by
       intro x h
       rcases List.mem_cons.1 h with rfl | h
       · exact hs
       · exact hsub x h)
     simp only [List.length_cons] at this
     omega
   rw [this]; simp
 · intro he
   have h1 := sub_len hnd hsub
   have h2 := sub_len (sel_nodup (isK ns 3) ns.length) (r := fsts xs) (by
     intro s hs
     have := List.any_eq_false.1 he s hs
     rw [← hst]
     simpa using this)
   omega
def opsAt (ns : List Nd) (i : Nat) : List Int := match ns[i]? with | some x => opsL x | none => []
def ofSt (s : Int) (l : List (Int × Int)) : List Int := (l.filter (fun p => p.1 == s)).map (·.2)
def leanL (ns : List Nd) (is xs : List (Int × Int)) (i : Nat) : List Int := if isK ns 3 i then ofSt i is ++ ofSt i xs else opsAt ns i
def Closed (ns : List Nd) (is xs : List (Int × Int)) (S : Nat → Bool) : Prop := ∀ i, i < ns.length → S i = true → ∀ y ∈ leanL ns is xs i, S y.toNat = true
def Roots (rs : List Int) (S : Nat → Bool) : Prop := ∀ r ∈ rs, S r.toNat = true
structure IsCone (ns : List Nd) (is xs : List (Int × Int)) (rs : List Int) (S : Nat → Bool) : Prop where
 root : Roots rs S
 clo : Closed ns is xs S
 least : ∀ T, Roots rs T → Closed ns is xs T → ∀ i, i < ns.length → S i = true → T i = true
def Lok (ns : List Nd) (is xs : List (Int × Int)) : Prop := ∀ i, i < ns.length → ∀ y ∈ leanL ns is xs i, 0 ≤ y ∧ y < ns.length
structure Work (ns : List Nd) (is xs : List (Int × Int)) (rs : List Int) (b : List Bool) (l : List Int) : Prop where
 len : b.length = ns.length
 rng : ∀ y ∈ l, 0 ≤ y ∧ y < ns.length
 root : ∀ r ∈ rs, b.getD r.toNat false = true ∨ r ∈ l
 clo : ∀ i, i < ns.length → b.getD i false = true → ∀ y ∈ leanL ns is xs i, b.getD y.toNat false = true ∨ y ∈ l
 least : ∀ T, Roots rs T → Closed ns is xs T → (∀ i, i < ns.length → b.getD i false = true → T i = true) ∧ (∀ y ∈ l, T y.toNat = true)
theorem getD_rep (n i : Nat) : (List.replicate n false).getD i false = false := by
 simp only [List.getD, List.getElem?_replicate]
 split <;> rfl
theorem Work.start {ns : List Nd} {is xs : List (Int × Int)} {rs : List Int} (h : ∀ r ∈ rs, 0 ≤ r ∧ r < ns.length) : Work ns is xs rs (List.replicate ns.length false) rs :=
 ⟨by simp, h, fun r hr => .inr hr, fun i _ hi => (by rw [getD_rep] at hi; cases hi), fun T hT _ => ⟨fun i _ hi => (by rw [getD_rep] at hi; cases hi), hT⟩⟩
theorem Work.met {ns : List Nd} {is xs : List (Int × Int)} {rs : List Int} {b : List Bool} {l : List Int} {x : Int} (h : Work ns is xs rs b (l ++ [x])) (hb : b.getD x.toNat false = true) : Work ns is xs rs b l := by
 refine ⟨h.len, fun y hy => h.rng y (List.mem_append.2 (.inl hy)), ?_, ?_, ?_⟩
 · intro r hr
   rcases h.root r hr with h1 | h1
   · exact .inl h1
   · rcases List.mem_append.1 h1 with h2 | h2
     · exact .inr h2
     · rw [List.mem_singleton.1 h2]; exact .inl hb
 · intro i hi hbi y hy
   rcases h.clo i hi hbi y hy with h1 | h1
   · exact .inl h1
   · rcases List.mem_append.1 h1 with h2 | h2
     · exact .inr h2
     · rw [List.mem_singleton.1 h2]; exact .inl hb
 · intro T h1 h2
   obtain ⟨h3, h4⟩ := h.least T h1 h2
   exact ⟨h3, fun y hy => h4 y (List.mem_append.2 (.inl hy))⟩
theorem getD_set (b : List Bool) (k j : Nat) (hk : k < b.length) : (b.set k true).getD j false = if j = k then true else b.getD j false := by
 simp only [List.getD, List.getElem?_set]
 by_cases h : j = k
 · subst h; simp [hk]
 · have h' : ¬ k = j := fun e => h e.symm
   simp [h, h']
theorem Work.more {ns : List Nd} {is xs : List (Int × Int)} {rs : List Int} {b : List Bool} {l : List Int} {x : Int} (hL : Lok ns is xs) (h : Work ns is xs rs b (l ++ [x])) : Work ns is xs rs (b.set x.toNat true) (l ++ leanL ns is xs x.toNat) := by
 have hx := h.rng x (by simp)
 have hlt : x.toNat < b.length := by have := h.len; omega
 have up : ∀ j, b.getD j false = true → (b.set x.toNat true).getD j false = true := by
   intro j hj; rw [getD_set _ _ _ hlt]; split
   · rfl
   · exact hj
 have here : (b.set x.toNat true).getD x.toNat false = true := by rw [getD_set _ _ _ hlt, if_pos rfl]
 refine ⟨by simpa using h.len, ?_, ?_, ?_, ?_⟩
 · intro y hy
   rcases List.mem_append.1 hy with h1 | h1
   · exact h.rng y (List.mem_append.2 (.inl h1))
   · exact hL _ (by omega) y h1
 · intro r hr
   rcases h.root r hr with h1 | h1
   · exact .inl (up _ h1)
   · rcases List.mem_append.1 h1 with h2 | h2
     · exact .inr (List.mem_append.2 (.inl h2))
     · rw [List.mem_singleton.1 h2]; exact .inl here
 · intro i hi hbi y hy
   by_cases he : i = x.toNat
   · subst he; exact .inr (List.mem_append.2 (.inr hy))
   · rw [getD_set _ _ _ hlt, if_neg he] at hbi
     rcases h.clo i hi hbi y hy with h1 | h1
     · exact .inl (up _ h1)
     · rcases List.mem_append.1 h1 with h2 | h2
       · exact .inr (List.mem_append.2 (.inl h2))
       · rw [List.mem_singleton.1 h2]; exact .inl here
 · intro T h1 h2
   obtain ⟨h3, h4⟩ := h.least T h1 h2
   have hTx := h4 x (by simp)
   refine ⟨fun i hi hbi => ?_, fun y hy => ?_⟩
   · by_cases he : i = x.toNat
     · subst he; exact hTx
     · rw [getD_set _ _ _ hlt, if_neg he] at hbi
       exact h3 i hi hbi
   · rcases List.mem_append.1 hy with h5 | h5
     · exact h4 y (List.mem_append.2 (.inl h5))
     · exact h2 _ (by omega) hTx y h5
theorem Work.done {ns : List Nd} {is xs : List (Int × Int)} {rs : List Int} {b : List Bool} (h : Work ns is xs rs b []) : IsCone ns is xs rs (fun i => b.getD i false) :=
 ⟨fun r hr => (h.root r hr).resolve_right (by simp), fun i hi hb y hy => (h.clo i hi hb y hy).resolve_right (by simp), fun T h1 h2 => (h.least T h1 h2).1⟩
end Go.Proofs.YtabnimgpednhjabGreat

namespace Go.Proofs.YtabnimgpednhjabGreat
open Go.RowKit
set_option maxRecDepth 100000
theorem owns_cap {w : World} {base : Nat} {p : Option Addr} {n cap : Nat} {l : List Value} (h : w.ownsRow base 3 1 (.slice p n cap) n l) : p = none → cap = 0 := by
 intro hp
 subst hp
 rcases h.2 with ⟨h1, _⟩ | ⟨g, cap', cur, h1, _⟩
 · injection h1
 · cases h1
end Go.Proofs.YtabnimgpednhjabGreat

namespace Go.Proofs.YtabnimgpednhjabGreat
open Go.RowKit
set_option maxRecDepth 100000
theorem owns_below {w w1 : World} {base : Nat} {e : TypeId} {size : Nat} {v : Value} {n : Nat} {xs : List Value} (h : w.ownsRow base e size v n xs) (hb : Below w.heap.size w w1) : w1.ownsRow base e size v n xs := by
 refine ⟨h.1, ?_⟩
 rcases h.2 with h0 | ⟨g, cap, cur, hv, hg, hh, r⟩
 · exact .inl h0
 · refine .inr ⟨g, cap, cur, hv, hg, ?_, r⟩
   obtain ⟨h1, _⟩ := Array.getElem?_eq_some_iff.1 hh
   rw [hb.block g h1]
   exact hh
theorem owns_set {w : World} {base : Nat} {e : TypeId} {size : Nat} {v : Value} {n : Nat} {xs : List Value} (h : w.ownsRow base e size v n xs) (a : Addr) (u : Value) (ha : a.block < base) : (w.setCell a u).ownsRow base e size v n xs := by
 refine ⟨h.1, ?_⟩
 rcases h.2 with h0 | ⟨g, cap, cur, hv, hg, hh, r⟩
 · exact .inl h0
 · refine .inr ⟨g, cap, cur, hv, hg, ?_, r⟩
   rw [Below.heap_setCell w a u g (by omega)]
   exact hh
theorem BRow.grown {w w' : World} {g : Nat} {b : List Bool} {row : Option Nat} (h : BRow w g b) (hg : w.grownBy w' row) (hne : some g ≠ row) : BRow w' g b := fun j hj => by
 obtain ⟨h1, h2⟩ := h j hj
 have hlt := World.block_lt_of_cell? w _ h1
 exact ⟨hg.cell h1 hne, (World.frozen?_of_block (hg.block g hlt hne)).trans h2⟩
end Go.Proofs.YtabnimgpednhjabGreat

namespace Go.Proofs.YtabnimgpednhjabGreat
open Go.RowKit
set_option maxRecDepth 100000
def ConeIs (ns : List Nd) (is xs : List (Int × Int)) (rs : List Int) (co : Int) (l : List Int) : Prop := if co = 0 then ∃ S, l = sel S ns.length ∧ IsCone ns is xs rs S else l = []
theorem ConeIs.yes {ns : List Nd} {is xs : List (Int × Int)} {rs : List Int} {co : Int} {S : Nat → Bool} (h : co = 0) (hS : IsCone ns is xs rs S) : ConeIs ns is xs rs co (sel S ns.length) := by
 unfold ConeIs; rw [if_pos h]; exact ⟨S, rfl, hS⟩
theorem ConeIs.no {ns : List Nd} {is xs : List (Int × Int)} {rs : List Int} {co : Int} (h : co ≠ 0) : ConeIs ns is xs rs co [] := by
 unfold ConeIs; rw [if_neg h]
theorem firstE_zero {f : Int × Int → Int} {l : List (Int × Int)} (h : firstE f l = 0) : ∀ p ∈ l, f p = 0 := by
 induction l with
 | nil => intro p hp; cases hp
 | cons q t ih =>
   simp only [firstE] at h
   by_cases hq : f q = 0
   · rw [if_neg (by simp [hq])] at h
     intro p hp
     rcases List.mem_cons.1 hp with rfl | hp
     · exact hq
     · exact ih h p hp
   · rw [if_pos hq] at h
     exact absurd h hq
theorem pairs_zero {ns : List Nd} {is xs : List (Int × Int)} (h : pairsE ns is xs = 0) : (∀ p ∈ is, initE ns p = 0) ∧ (∀ p ∈ xs, pairE ns p.1 p.2 = 0) ∧ dup (fsts is) = false ∧ dup (fsts xs) = false := by
 unfold pairsE at h
 by_cases h1 : firstE (initE ns) is = 0
 · rw [if_neg (by simp [h1])] at h
   by_cases h2 : firstE (nextE ns) xs = 0
   · rw [if_neg (by simp [h2])] at h
     by_cases h3 : (dup (fsts is) || dup (fsts xs)) = true
     · rw [if_pos h3] at h; omega
     · simp only [Bool.or_eq_true, not_or, Bool.not_eq_true] at h3
       exact ⟨firstE_zero h1, firstE_zero h2, h3.1, h3.2⟩
   · rw [if_pos h2] at h; exact absurd h h2
 · rw [if_pos h1] at h; exact absurd h h1
theorem check_zero {ns : List Nd} {is xs : List (Int × Int)} {bs hs : List Int} (h : checkE ns is xs bs hs = 0) :
   (ns.length ≤ 80 ∧ bs.length ≤ 8 ∧ hs.length ≤ 8) ∧ firstN (nodeAtE ns) ns.length = 0 ∧ pairsE ns is xs = 0 ∧ marksE ns xs bs hs = 0 := by
 unfold checkE at h
 by_cases h1 : 80 < ns.length ∨ 8 < bs.length ∨ 8 < hs.length
 · rw [if_pos h1] at h; omega
 rw [if_neg h1] at h
 by_cases h2 : firstN (nodeAtE ns) ns.length = 0
 · rw [if_neg (by simp [h2])] at h
   by_cases h3 : 6 < sumW ns (sel (isK ns 2) ns.length) ∨ 10 < sumW ns (sel (isK ns 3) ns.length)
   · rw [if_pos h3] at h; omega
   rw [if_neg h3] at h
   by_cases h4 : pairsE ns is xs = 0
   · rw [if_neg (by simp [h4])] at h
     exact ⟨by omega, h2, h4, h⟩
   · rw [if_pos h4] at h; exact absurd h h4
 · rw [if_pos h2] at h; exact absurd h h2
theorem Box.kept {w w' : World} {B : Nat} {m : Mv} {l0 : Nat} (h : Box w B m l0) (hk : ∀ a v, a.block = B → w.cell? a = some v → w'.cell? a = some v) : Box w' B m l0 := by
 obtain ⟨q0, q1, q2, q3, q4⟩ := h
 exact ⟨hk _ _ rfl q0, hk _ _ rfl q1, hk _ _ rfl q2, hk _ _ rfl q3, hk _ _ rfl q4⟩
end Go.Proofs.YtabnimgpednhjabGreat

namespace Go.Proofs.YtabnimgpednhjabGreat
open Go.RowKit
set_option maxRecDepth 100000
set_option maxHeartbeats 2000000 in
theorem made1_4 (v a b c n wa wb wc : Int) (hfit : fitE 4 v n wa wb wc = 0) (ha : isW a wa = true) (w : World) :
   Calls Tryz.prog 41 #[.int .i64 4, .int .i64 v, .int .i64 a, .int .i64 b, .int .i64 c, .int .i64 n, arr3 wa wb wc] w fun e w' => e = .returned (.int .i64 (madeE 4 v a b c n wa wb)) ∧ Below w.heap.size w w' := by
 obtain ⟨hv, hr, hok, hn, _⟩ := fit_zero hfit
 obtain ⟨ba, _, _⟩ := rng_bd hr
 have hr1 : 1 ≤ wa := by
   simp [rngOk, takes, btw] at hr
   omega
 have h0 := isW_iff.1 ha
 have ta := (two_bd ba).2
 have g0 : 0 ≤ a ∧ a < 256 := by omega
 simp only [okOf] at hok
 obtain rfl : wa = v := by simpa using hok
 have tv := two_bd (v := wa) (by omega)
 have hvz : ¬ two wa = 0 := by omega
 have B1 : Hid _ := h0.2
 clear hfit hr hok hn ha
 go_enter Tryz.func41, Tryz.ntmps41
 go_wp2_with (first | (go_at_call 14; refine (two_any _ (by omega) (by omega) _).mono ?_; rintro e w' ⟨rfl, rfl⟩))
 go_ret
 exact ⟨rfl, by repeat (first | exact Below.refl _ _ | refine bal ?_ _)⟩
set_option maxHeartbeats 2000000 in
theorem made1_5 (v a b c n wa wb wc : Int) (hfit : fitE 5 v n wa wb wc = 0) (ha : isW a wa = true) (w : World) :
   Calls Tryz.prog 41 #[.int .i64 5, .int .i64 v, .int .i64 a, .int .i64 b, .int .i64 c, .int .i64 n, arr3 wa wb wc] w fun e w' => e = .returned (.int .i64 (madeE 5 v a b c n wa wb)) ∧ Below w.heap.size w w' := by
 obtain ⟨hv, hr, hok, hn, _⟩ := fit_zero hfit
 obtain ⟨ba, _, _⟩ := rng_bd hr
 have hr1 : 1 ≤ wa := by
   simp [rngOk, takes, btw] at hr
   omega
 have h0 := isW_iff.1 ha
 have ta := (two_bd ba).2
 have g0 : 0 ≤ a ∧ a < 256 := by omega
 simp only [okOf] at hok
 obtain rfl : wa = v := by simpa using hok
 have tv := two_bd (v := wa) (by omega)
 have hvz : ¬ two wa = 0 := by omega
 have B1 : Hid _ := h0.2
 clear hfit hr hok hn ha
 go_enter Tryz.func41, Tryz.ntmps41
 go_wp2_with (first | (go_at_call 14; refine (two_any _ (by omega) (by omega) _).mono ?_; rintro e w' ⟨rfl, rfl⟩))
 go_ret
 exact ⟨rfl, by repeat (first | exact Below.refl _ _ | refine bal ?_ _)⟩
set_option maxHeartbeats 2000000 in
theorem made1_21 (v a b c n wa wb wc : Int) (hfit : fitE 21 v n wa wb wc = 0) (ha : isW a wa = true) (w : World) :
   Calls Tryz.prog 41 #[.int .i64 21, .int .i64 v, .int .i64 a, .int .i64 b, .int .i64 c, .int .i64 n, arr3 wa wb wc] w fun e w' => e = .returned (.int .i64 (madeE 21 v a b c n wa wb)) ∧ Below w.heap.size w w' := by
 obtain ⟨hv, hr, hok, hn, _⟩ := fit_zero hfit
 obtain ⟨ba, _, _⟩ := rng_bd hr
 have hr1 : 1 ≤ wa := by
   simp [rngOk, takes, btw] at hr
   omega
 have h0 := isW_iff.1 ha
 have ta := (two_bd ba).2
 have g0 : 0 ≤ a ∧ a < 256 := by omega
 simp only [okOf] at hok
 have hcut : (0 ≤ n ∧ n ≤ 8) ∧ n + v ≤ wa := by simpa using hok
 have tv := two_bd (v := v) (by omega)
 have tn := two_bd (v := n) (by omega)
 have hnz : ¬ two n = 0 := by omega
 have q1 := Int.ediv_nonneg h0.1 (show 0 ≤ two n from by omega)
 have q2 := Int.ediv_le_self (two n) h0.1
 have hvz : ¬ two v = 0 := by omega
 have B1 : Hid _ := h0.2
 clear hfit hr hok hn ha
 go_enter Tryz.func41, Tryz.ntmps41
 go_wp2_with (first | (go_at_call 14; refine (two_any _ (by omega) (by omega) _).mono ?_; rintro e w' ⟨rfl, rfl⟩))
 go_ret
 exact ⟨rfl, by repeat (first | exact Below.refl _ _ | refine bal ?_ _)⟩
set_option maxHeartbeats 2000000 in
theorem made1_22 (v a b c n wa wb wc : Int) (hfit : fitE 22 v n wa wb wc = 0) (ha : isW a wa = true) (w : World) :
   Calls Tryz.prog 41 #[.int .i64 22, .int .i64 v, .int .i64 a, .int .i64 b, .int .i64 c, .int .i64 n, arr3 wa wb wc] w fun e w' => e = .returned (.int .i64 (madeE 22 v a b c n wa wb)) ∧ Below w.heap.size w w' := by
 obtain ⟨hv, hr, hok, hn, _⟩ := fit_zero hfit
 obtain ⟨ba, _, _⟩ := rng_bd hr
 have hr1 : 1 ≤ wa := by
   simp [rngOk, takes, btw] at hr
   omega
 have h0 := isW_iff.1 ha
 have ta := (two_bd ba).2
 have g0 : 0 ≤ a ∧ a < 256 := by omega
 simp only [okOf] at hok
 have hle : wa ≤ v := by simpa using hok
 have tv := two_bd (v := v) (by omega)
 have hvz : ¬ two v = 0 := by omega
 have B1 : Hid _ := h0.2
 clear hfit hr hok hn ha
 go_enter Tryz.func41, Tryz.ntmps41
 go_wp2_with (first | (go_at_call 14; refine (two_any _ (by omega) (by omega) _).mono ?_; rintro e w' ⟨rfl, rfl⟩))
 go_ret
 exact ⟨rfl, by repeat (first | exact Below.refl _ _ | refine bal ?_ _)⟩
set_option maxHeartbeats 2000000 in
theorem made1_23 (v a b c n wa wb wc : Int) (hfit : fitE 23 v n wa wb wc = 0) (ha : isW a wa = true) (w : World) :
   Calls Tryz.prog 41 #[.int .i64 23, .int .i64 v, .int .i64 a, .int .i64 b, .int .i64 c, .int .i64 n, arr3 wa wb wc] w fun e w' => e = .returned (.int .i64 (madeE 23 v a b c n wa wb)) ∧ Below w.heap.size w w' := by
 obtain ⟨hv, hr, hok, hn, _⟩ := fit_zero hfit
 obtain ⟨ba, _, _⟩ := rng_bd hr
 have hr1 : 1 ≤ wa := by
   simp [rngOk, takes, btw] at hr
   omega
 have h0 := isW_iff.1 ha
 have ta := (two_bd ba).2
 have g0 : 0 ≤ a ∧ a < 256 := by omega
 simp only [okOf] at hok
 have hle : wa ≤ v := by simpa using hok
 have tv := two_bd (v := v) (by omega)
 have q1 := sgn_bd a wa h0.1 h0.2
 have q2 := two_mono wa v (by omega) hle
 have hvz : ¬ two v = 0 := by omega
 have B1 : Hid _ := h0.2
 clear hfit hr hok hn ha
 go_enter Tryz.func41, Tryz.ntmps41
 go_wp2_with (first | (go_at_call 14; refine (two_any _ (by omega) (by omega) _).mono ?_; rintro e w' ⟨rfl, rfl⟩) | (go_at_call 65; refine (signedR_any a wa (by omega) (by omega) B1.out _).mono ?_; rintro e w' ⟨rfl, rfl⟩))
 go_ret
 exact ⟨rfl, by repeat (first | exact Below.refl _ _ | refine bal ?_ _)⟩
theorem one_kinds {k : Int} (h : takes k = 1) (h4 : 4 ≤ k ∧ k ≤ 23) : k = 4 ∨ k = 5 ∨ k = 21 ∨ k = 22 ∨ k = 23 := by
 rcases kinds20 h4 with rfl | rfl | rfl | rfl | rfl | rfl | rfl | rfl | rfl | rfl | rfl | rfl | rfl | rfl | rfl | rfl | rfl | rfl | rfl | rfl
 all_goals first | (simp; done) | (exfalso; revert h; decide)
theorem made1_any (k v a b c n wa wb wc : Int) (h : takes k = 1) (hfit : fitE k v n wa wb wc = 0) (ha : isW a wa = true) (w : World) :
   Calls Tryz.prog 41 #[.int .i64 k, .int .i64 v, .int .i64 a, .int .i64 b, .int .i64 c, .int .i64 n, arr3 wa wb wc] w fun e w' => e = .returned (.int .i64 (madeE k v a b c n wa wb)) ∧ Below w.heap.size w w' := by
 rcases one_kinds h (fit_zero hfit).2.2.2.2 with rfl | rfl | rfl | rfl | rfl
 · exact made1_4 v a b c n wa wb wc hfit ha w
 · exact made1_5 v a b c n wa wb wc hfit ha w
 · exact made1_21 v a b c n wa wb wc hfit ha w
 · exact made1_22 v a b c n wa wb wc hfit ha w
 · exact made1_23 v a b c n wa wb wc hfit ha w
theorem nat_lt_two {x : Nat} {v : Int} (h : x < 2 ^ v.toNat) : isW (x : Int) v = true := isW_iff.2 ⟨by omega, by rw [two_nat]; exact_mod_cast h⟩
theorem lt_nat {a v : Int} (h : isW a v = true) : a.toNat < 2 ^ v.toNat := by
 have := isW_iff.1 h
 rw [two_nat] at this
 omega
theorem emod_isW (x v : Int) : isW (x % two v) v = true := isW_iff.2 ⟨Int.emod_nonneg _ (by have := two_pos v; omega), Int.emod_lt_of_pos _ (two_pos v)⟩
theorem made_isW {k v a b c n wa wb wc : Int} (hfit : fitE k v n wa wb wc = 0) (ha : isW a wa = true) (hb : isW b wb = true) (hc : isW c wc = true) : isW (madeE k v a b c n wa wb) v = true := by
 obtain ⟨hv, hr, hok, hn, hk⟩ := fit_zero hfit
 have h0 := isW_iff.1 ha
 have h1 := isW_iff.1 hb
 have tv := two_pos v
 rcases kinds20 hk with rfl | rfl | rfl | rfl | rfl | rfl | rfl | rfl | rfl | rfl | rfl | rfl | rfl | rfl | rfl | rfl | rfl | rfl | rfl | rfl
 all_goals simp only [okOf] at hok
 all_goals simp only [madeE]
 · obtain rfl : wa = v := by simpa using hok
   refine isW_iff.2 ?_
   simp only [if_pos]
   omega
 · exact emod_isW _ _
 · obtain ⟨rfl, rfl⟩ : wa = v ∧ wb = wa := by simp at hok; omega
   exact nat_lt_two (Nat.lt_of_le_of_lt Nat.and_le_left (lt_nat ha))
 · obtain ⟨rfl, rfl⟩ : wa = v ∧ wb = wa := by simp at hok; omega
   exact nat_lt_two (Nat.or_lt_two_pow (lt_nat ha) (lt_nat hb))
 · obtain ⟨rfl, rfl⟩ : wa = v ∧ wb = wa := by simp at hok; omega
   exact nat_lt_two (Nat.xor_lt_two_pow (lt_nat ha) (lt_nat hb))
 · exact emod_isW _ _
 · exact emod_isW _ _
 · exact emod_isW _ _
 · obtain ⟨rfl, rfl⟩ : wa = v ∧ wb = wa := by simp at hok; omega
   have e1 := Int.ediv_nonneg h0.1 h1.1
   have e2 := Int.ediv_le_self b h0.1
   refine isW_iff.2 ?_
   simp
   split <;> omega
 · obtain ⟨rfl, rfl⟩ : wa = v ∧ wb = wa := by simp at hok; omega
   refine isW_iff.2 ?_
   simp
   split
   · omega
   · have e1 := Int.emod_nonneg a (show b ≠ 0 from by assumption)
     have e2 := Int.emod_lt_of_pos a (show 0 < b from by omega)
     omega
 · simp
   split
   · exact isW_iff.2 ⟨by omega, tv⟩
   · exact emod_isW _ _
 · obtain ⟨rfl, rfl⟩ : wa = v ∧ wb = wa := by simp at hok; omega
   have tb := two_pos b
   have e1 := Int.ediv_nonneg h0.1 (show 0 ≤ two b from by omega)
   have e2 := Int.ediv_le_self (two b) h0.1
   refine isW_iff.2 ?_
   simp
   split <;> omega
 · obtain ⟨_, rfl⟩ : wa = wb ∧ v = 1 := by simpa using hok
   simp [yesOf]
   split <;> decide
 · obtain ⟨_, rfl⟩ : wa = wb ∧ v = 1 := by simpa using hok
   simp [yesOf]
   split <;> decide
 · obtain ⟨_, rfl⟩ : wa = wb ∧ v = 1 := by simpa using hok
   simp [yesOf]
   split <;> decide
 · obtain ⟨⟨_, rfl⟩, rfl⟩ : (wa = 1 ∧ wb = v) ∧ wc = wb := by simp at hok; omega
   simp
   split
   · exact hb
   · exact hc
 · obtain rfl : wa + wb = v := by simpa using hok
   obtain ⟨wa0, wb0, _⟩ := rng_bd hr
   have e : two (wa + wb) = two wa * two wb := by
     unfold two
     rw [Int.toNat_add (by omega) (by omega), Int.pow_add]
   have hm := Int.mul_le_mul_of_nonneg_right (show a ≤ two wa - 1 from by omega) (show 0 ≤ two wb from by omega)
   have hp := Int.mul_nonneg h0.1 (show 0 ≤ two wb from by omega)
   refine isW_iff.2 ?_
   simp
   rw [e]
   rw [Int.sub_mul] at hm
   omega
 · exact emod_isW _ _
 · have hle : wa ≤ v := by simpa using hok
   obtain ⟨wa0, _, _⟩ := rng_bd hr
   have := two_mono wa v (by omega) hle
   refine isW_iff.2 ?_
   simp
   omega
 · exact emod_isW _ _
def ahead (ns : List Nd) (kind : Int) (k : Nat) : Nat := (sel (isK ns kind) k).length
def opv (vs : List Int) (t i x : Int) : Int := if i < t then vs.getD x.toNat 0 else 0
def valAt (ns : List Nd) (sts ins vs : List Int) (k : Nat) : Int :=
 match ns[k]? with
 | none => 0
 | some x => if x.kind = 1 then x.n else if x.kind = 2 then ins.getD (ahead ns 2 k) 0 else if x.kind = 3 then sts.getD (ahead ns 3 k) 0
   else madeE x.kind x.width (opv vs (takes x.kind) 0 x.a) (opv vs (takes x.kind) 1 x.b) (opv vs (takes x.kind) 2 x.c) x.n (wds ns (takes x.kind) 0 x.a) (wds ns (takes x.kind) 1 x.b)
def vals (ns : List Nd) (sts ins : List Int) : Nat → List Int
 | 0 => []
 | k + 1 => vals ns sts ins k ++ [valAt ns sts ins (vals ns sts ins k) k]
theorem vals_len (ns : List Nd) (sts ins : List Int) (k : Nat) : (vals ns sts ins k).length = k := by
 induction k with
 | zero => rfl
 | succ k ih => simp [vals, ih]
def wordsE (ns : List Nd) (kind : Int) (l : List Int) : Int :=
 if l.length ≠ (sel (isK ns kind) ns.length).length then 2
 else if (List.range l.length).any (fun i => !isW (l.getD i 0) (wdOf ns ((sel (isK ns kind) ns.length).getD i 0))) then 3 else 0
theorem sel_prefix (f : Nat → Bool) {k n : Nat} (h : k ≤ n) : (sel f k) <+: (sel f n) := by
 induction n with
 | zero => obtain rfl : k = 0 := by omega
           exact List.prefix_refl _
 | succ n ih =>
   rcases Nat.lt_or_ge k (n + 1) with h1 | h1
   · refine List.IsPrefix.trans (ih (by omega)) ?_
     cases hf : f n
     · rw [sel_no hf]; exact List.prefix_refl _
     · rw [sel_yes hf]; exact List.prefix_append _ _
   · obtain rfl : k = n + 1 := by omega
     exact List.prefix_refl _
theorem sel_place {f : Nat → Bool} {k n : Nat} (hk : k < n) (hf : f k = true) : (sel f k).length < (sel f n).length ∧ (sel f n).getD (sel f k).length 0 = (k : Int) := by
 have h := sel_prefix f (show k + 1 ≤ n from hk)
 rw [sel_yes hf] at h
 obtain ⟨t, ht⟩ := h
 rw [← ht]
 constructor
 · simp
 · simp [List.getD]
theorem words_zero {ns : List Nd} {kind : Int} {l : List Int} (h : wordsE ns kind l = 0) : l.length = (sel (isK ns kind) ns.length).length ∧ ∀ k, k < ns.length → isK ns kind k = true → ahead ns kind k < l.length ∧ isW (l.getD (ahead ns kind k) 0) (wdOf ns k) = true := by
 unfold wordsE at h
 by_cases h1 : l.length = (sel (isK ns kind) ns.length).length
 · rw [if_neg (by simp [h1])] at h
   refine ⟨h1, fun k hk hf => ?_⟩
   obtain ⟨p1, p2⟩ := sel_place hk hf
   have hlt : ahead ns kind k < l.length := by unfold ahead; omega
   refine ⟨hlt, ?_⟩
   by_cases h2 : (List.range l.length).any (fun i => !isW (l.getD i 0) (wdOf ns ((sel (isK ns kind) ns.length).getD i 0))) = true
   · rw [if_pos h2] at h; omega
   · have := List.any_eq_false.1 ((Bool.not_eq_true _).mp h2) (ahead ns kind k) (List.mem_range.2 hlt)
     rw [show (sel (isK ns kind) ns.length).getD (ahead ns kind k) 0 = (k : Int) from p2] at this
     simpa using this
 · rw [if_pos h1] at h; omega
end Go.Proofs.YtabnimgpednhjabGreat

namespace Go.Proofs.YtabnimgpednhjabGreat
open Go.RowKit
set_option maxRecDepth 100000
theorem op_isW {ns : List Nd} {vs : List Int} {t i x : Int} (h : i < t → isW (vs.getD x.toNat 0) (wdOf ns x) = true) : isW (opv vs t i x) (wds ns t i x) = true := by
 unfold opv wds
 by_cases hi : i < t
 · rw [if_pos hi, if_pos hi]; exact h hi
 · rw [if_neg hi, if_neg hi]; decide
theorem opE_fit {ns : List Nd} {i : Nat} {x : Nd} (h : opE ns i x = 0) : fitE x.kind x.width x.n (wds ns (takes x.kind) 0 x.a) (wds ns (takes x.kind) 1 x.b) (wds ns (takes x.kind) 2 x.c) = 0 := by
 unfold opE at h
 split at h
 · omega
 · exact h
theorem opE_in {ns : List Nd} {i : Nat} {x : Nd} (h : opE ns i x = 0) : (0 < takes x.kind → 0 ≤ x.a ∧ x.a < i) ∧ (1 < takes x.kind → 0 ≤ x.b ∧ x.b < i) ∧ (2 < takes x.kind → 0 ≤ x.c ∧ x.c < i) ∧ (takes x.kind < 2 → x.b = 0) ∧ (takes x.kind < 3 → x.c = 0) := by
 unfold opE at h
 by_cases hb : (badOn (takes x.kind) 0 i x.a || badOn (takes x.kind) 1 i x.b || badOn (takes x.kind) 2 i x.c) = true
 · rw [if_pos hb] at h; omega
 · simp only [Bool.or_eq_true, not_or, Bool.not_eq_true] at hb
   obtain ⟨⟨h0, h1⟩, h2⟩ := hb
   refine ⟨fun ht => bad_false h0 ht, fun ht => bad_false h1 ht, fun ht => bad_false h2 ht, fun ht => ?_, fun ht => ?_⟩
   · unfold badOn at h1
     rw [if_neg (by omega)] at h1
     simpa using h1
   · unfold badOn at h2
     rw [if_neg (by omega)] at h2
     simpa using h2
theorem vals_at (ns : List Nd) (sts ins : List Int) {k n : Nat} (h : k < n) : (vals ns sts ins n).getD k 0 = valAt ns sts ins (vals ns sts ins k) k := by
 induction n with
 | zero => omega
 | succ n ih =>
   have hl := vals_len ns sts ins n
   simp only [vals, List.getD, List.getElem?_append]
   rcases Nat.lt_succ_iff_lt_or_eq.1 h with h1 | rfl
   · rw [if_pos (by omega)]
     exact ih h1
   · rw [if_neg (by omega), hl]
     simp
theorem vals_getD (ns : List Nd) (sts ins : List Int) {i k n : Nat} (h : i < k) (hk : k ≤ n) : (vals ns sts ins n).getD i 0 = (vals ns sts ins k).getD i 0 := by
 rw [vals_at ns sts ins (show i < n by omega), vals_at ns sts ins h]
theorem vals_isW {ns : List Nd} {sts ins : List Int} (hn : firstN (nodeAtE ns) ns.length = 0) (hs : wordsE ns 3 sts = 0) (hi : wordsE ns 2 ins = 0) :
   ∀ k, k < ns.length → isW (valAt ns sts ins (vals ns sts ins k) k) (wdOf ns k) = true := by
 intro k
 induction k using Nat.strongRecOn with
 | ind k ih =>
   intro hk
   have hnode := firstN_zero.1 hn k hk
   rw [nodeAtE_at hk] at hnode
   obtain ⟨hw, hkd, _, h4, hlf⟩ := node_zero hnode
   have hwd : wdOf ns k = ns[k].width := by unfold wdOf; rw [Int.toNat_natCast, List.getElem?_eq_getElem hk]
   unfold valAt
   rw [List.getElem?_eq_getElem hk]
   simp only
   by_cases k1 : ns[k].kind = 1
   · rw [if_pos k1, hwd]
     have := hlf (by omega)
     unfold leafE at this
     by_cases hW : isW ns[k].n ns[k].width = true
     · exact hW
     · rw [if_pos ⟨k1, (Bool.not_eq_true _).mp hW⟩] at this
       omega
   · rw [if_neg k1]
     by_cases k2 : ns[k].kind = 2
     · rw [if_pos k2]
       exact ((words_zero hi).2 k hk (by rw [isK_at hk, k2]; rfl)).2
     · rw [if_neg k2]
       by_cases k3 : ns[k].kind = 3
       · rw [if_pos k3]
         exact ((words_zero hs).2 k hk (by rw [isK_at hk, k3]; rfl)).2
       · rw [if_neg k3, hwd]
         have hop := h4 (by omega)
         obtain ⟨i0, i1, i2, _, _⟩ := opE_in hop
         have key : ∀ x : Int, 0 ≤ x ∧ x < k → isW ((vals ns sts ins k).getD x.toNat 0) (wdOf ns x) = true := by
           intro x hx
           rw [vals_at ns sts ins (show x.toNat < k by omega)]
           have := ih x.toNat (by omega) (by omega)
           rwa [show ((x.toNat : Nat) : Int) = x by omega] at this
         exact made_isW (opE_fit hop) (op_isW (fun h => key _ (i0 h))) (op_isW (fun h => key _ (i1 h))) (op_isW (fun h => key _ (i2 h)))
theorem wordsE_hit {ns : List Nd} {kind : Int} {l : List Int} (hl : l.length = (sel (isK ns kind) ns.length).length) {k : Nat} (hk : k < l.length) (h : isW (l.getD k 0) (wdOf ns ((sel (isK ns kind) ns.length).getD k 0)) = false) : wordsE ns kind l = 3 := by
 unfold wordsE
 rw [if_neg (by simp [hl]), if_pos (List.any_eq_true.2 ⟨k, List.mem_range.2 hk, by rw [h]; rfl⟩)]
theorem wordsE_ok {ns : List Nd} {kind : Int} {l : List Int} (hl : l.length = (sel (isK ns kind) ns.length).length) (h : ∀ k, k < l.length → isW (l.getD k 0) (wdOf ns ((sel (isK ns kind) ns.length).getD k 0)) = true) : wordsE ns kind l = 0 := by
 unfold wordsE
 rw [if_neg (by simp [hl]), if_neg]
 rw [Bool.not_eq_true, List.any_eq_false]
 intro i hi
 rw [h i (List.mem_range.1 hi)]
 simp
theorem getD_at {l : List Int} {k : Nat} (h : k < l.length) : l.getD k 0 = l[k] := by simp [List.getD, List.getElem?_eq_getElem h]
set_option maxHeartbeats 2000000 in
theorem fitW_any (m : Mv) (ns : List Nd) (hl : ns.length ≤ 80) (hW : Wok ns) (kind : Int) (l : List Int) (p : Option Addr) (cap : Nat) (hll : l.length ≤ maxLen) (w : World) (hN : NodesAt w m.a0 ns) (hI : IntsAt w p l) :
   Calls Tryz.prog 93 #[m.val ns.length, .int .i64 kind, .slice p l.length cap] w fun e w' => e = .returned (.int .i64 (wordsE ns kind l)) ∧ Below w.heap.size w w' := by
 obtain ⟨a0, c0, a1, l1, c1, a2, l2, c2, a3, l3, c3, a4, l4, c4⟩ := m
 simp only at hN
 unfold maxLen at hll
 have HW := hide hW
 have HI := hide hI
 have HN := hide hN
 have HBx := hide (Box.new w ⟨a0, c0, a1, l1, c1, a2, l2, c2, a3, l3, c3, a4, l4, c4⟩ ns.length)
 have HB0 : Hid (Below w.heap.size w (w.alloc (.cells (Mv.cells ⟨a0, c0, a1, l1, c1, a2, l2, c2, a3, l3, c3, a4, l4, c4⟩ ns.length) 35))) := bal (Below.refl _ _) _
 have HK := hide (fun _ : Unit => ofKind_any a0 c0 ns (by omega) kind _ (hN.later HB0.out))
 have HBD : Hid (∀ k (h : k < (sel (isK ns kind) ns.length).length), 0 ≤ (sel (isK ns kind) ns.length)[k] ∧ (sel (isK ns kind) ns.length)[k] < ns.length) := fun k h => sel_bd h
 have hsl := sel_len (isK ns kind) ns.length
 have HH := hide (@wordsE_hit ns kind l)
 have HO := hide (@wordsE_ok ns kind l)
 have HM : Hid (l.length ≠ (sel (isK ns kind) ns.length).length → wordsE ns kind l = 2) := fun h => by unfold wordsE; rw [if_pos h]
 clear hN hI hW
 generalize sel (isK ns kind) ns.length = S at *
 generalize wordsE ns kind l = we at *
 go_enter Tryz.func93, Tryz.ntmps93
 go_wp2_with fail
 refine (HK.out ()).mono ?_
 rintro e w1 ⟨q, qc, rfl, hQ, hb1⟩
 have HB1 := hide (bthen HB0.out hb1)
 have HX1 := hide (HBx.out.later hb1)
 have HQ := hide hQ
 have q0 := HX1.out.1
 clear hb1 hQ HB0 HBx HK
 by_cases hlen : l.length = S.length
 · have hne : ((l.length : Int) != (S.length : Int)) = false := by simp [hlen]
   have HL := hide hlen
   clear hlen HM
   go_wp2
   go_loopw [21] (fun i wr => ∃ k : Nat, k ≤ S.length ∧ i = .int .i64 k ∧ Below w1.heap.size w1 wr ∧ Hid (∀ i, i < k → isW (l.getD i 0) (wdOf ns (S.getD i 0)) = true)) (fun i _ => S.length - (intOf i).toNat)
   case atStart => exact ⟨0, Nat.zero_le _, rfl, Below.refl _ _, fun i hi => by omega⟩
   case round =>
     obtain ⟨k, hk, rfl, hbw, hz⟩ := hrel
     clear q0
     have q0 := cell_later hbw HX1.out.1
     by_cases hlt : k < S.length
     · have hlt2 : k < l.length := by have := HL.out; omega
       obtain ⟨b, off, rfl, hc⟩ := (HQ.out.later hbw) (by omega)
       obtain ⟨b2, off2, rfl, hc2⟩ := (HI.out.later (bthen HB1.out hbw)) (by omega)
       have d0 := hc k hlt
       have d1 := hc2 k hlt2
       have hkl : (k : Int) < (S.length : Int) := by omega
       have hkl2 : (k : Int) < (l.length : Int) := by omega
       obtain ⟨s0, s1⟩ := HBD.out k hlt
       have HY : Hid (isW l[k] (wdOf ns S[k]) = false → we = 3) := fun h => HH.out HL.out hlt2 (by rw [getD_at hlt2, getD_at hlt]; exact h)
       have HZ : Hid (isW l[k] (wdOf ns S[k]) = true → ∀ i, i < k + 1 → isW (l.getD i 0) (wdOf ns (S.getD i 0)) = true) := by
         intro h i hik
         rcases Nat.lt_succ_iff_lt_or_eq.1 hik with h1 | rfl
         · exact hz.out i h1
         · rw [getD_at hlt2, getD_at hlt]; exact h
       clear hc hc2 hz
       generalize l[k] = x at *
       generalize S[k] = s at *
       obtain ⟨nb, noff, rfl, hnc⟩ := (HN.out.later (bthen HB1.out hbw)) (by omega)
       have k2 := (kd_wd hnc s s0 s1).2
       have HBT := hide (fun w => isWord_any x (wdOf ns s) (wdOf_bd HW.out s) w)
       clear hnc
       generalize wdOf ns s = wd at *
       cases hxb : isW x wd
       · have HE := hide (HY.out hxb)
         rw [hxb] at HBT
         clear HY HZ hxb
         go_wp2
         go_quiet (first | (go_at_call 90; exact Calls.quiet_of_same (HBT.out _)))
         go_wp2
         go_ret
         exact ⟨ret_int HE.out.symm, below_drewN (bthen HB1.out hbw) _⟩
       · have HZ2 := hide (HZ.out hxb)
         rw [hxb] at HBT
         clear HY HZ hxb
         go_wp2
         go_quiet (first | (go_at_call 90; exact Calls.quiet_of_same (HBT.out _)))
         go_wp2
         go_roundw
         case rel => first | exact ⟨k + 1, by omega, by go_num, below_drewN hbw _, HZ2⟩ | ((repeat apply Exists.intro); exact ⟨⟨k + 1, by omega, by go_num, below_drewN hbw _, HZ2⟩, rfl⟩)
         case measure => simp [intOf]; omega
     · have HE : Hid (we = 0) := HO.out HL.out (fun i hi => hz.out i (by have := HL.out; omega))
       clear hz
       go_wp2
       go_ret
       exact ⟨ret_int HE.out.symm, bthen HB1.out hbw⟩
 · have hne : ((l.length : Int) != (S.length : Int)) = true := by simp; omega
   have HE := hide (HM.out hlen)
   clear hlen HM
   go_wp2
   go_ret
   exact ⟨ret_int HE.out.symm, HB1.out⟩
end Go.Proofs.YtabnimgpednhjabGreat
