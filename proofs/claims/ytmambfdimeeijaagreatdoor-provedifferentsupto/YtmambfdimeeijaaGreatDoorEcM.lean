/- The plain text: a node is checked. -/
import Derived.Test.YtmambfdimeeijaaGreatDoorMnM
import Derived.Laws.AppendOwnNone
import Derived.Lib.SliceRun
import Derived.Test.YtmambfdimeeijaaGreatDoorMkM
namespace Go.Proofs.YtmambfdimeeijaaGreatDoor.Ev
open Go.RowKit
set_option maxRecDepth 100000
end Go.Proofs.YtmambfdimeeijaaGreatDoor.Ev

namespace Go.Proofs.YtmambfdimeeijaaGreatDoor.Ev
open Go.RowKit
set_option maxRecDepth 100000
end Go.Proofs.YtmambfdimeeijaaGreatDoor.Ev

namespace Go.Proofs.YtmambfdimeeijaaGreatDoor.Ev
open Go.RowKit
set_option maxRecDepth 100000
end Go.Proofs.YtmambfdimeeijaaGreatDoor.Ev

namespace Go.Proofs.YtmambfdimeeijaaGreatDoor.Ev
open Go.RowKit
set_option maxRecDepth 100000
end Go.Proofs.YtmambfdimeeijaaGreatDoor.Ev

namespace Go.Proofs.YtmambfdimeeijaaGreatDoor.Ev
open Go.RowKit
set_option maxRecDepth 100000
set_option maxRecDepth 100000 in
set_option maxHeartbeats 1000000 in
theorem inputs_any (a0 a1 a2 a3 a4 : Option Addr) (c0 c1 c2 c3 c4 : Nat) (ns : List Nd) (is xs : List (Int × Int)) (bs hs : List Int) (hln : ns.length ≤ 2932031007402) (hli : is.length ≤ 8796093022208) (hlx : xs.length ≤ 8796093022208) (hlb : bs.length ≤ maxLen) (hlh : hs.length ≤ maxLen) (w : World)
   (hN : NodesAt w a0 ns) (hI : PairsAt w a1 is) (hX : PairsAt w a2 xs) (hBs : IntsAt w a3 bs) (hHs : IntsAt w a4 hs) :
   Calls Tryz.prog 119 #[Mv.val ⟨a0, c0, a1, is.length, c1, a2, xs.length, c2, a3, bs.length, c3, a4, hs.length, c4⟩ ns.length] w fun e w' =>
     ∃ p cap l, e = .returned (.tuple #[.slice p l.length cap, .int .i64 (checkE ns is xs bs hs)]) ∧ l = (if checkE ns is xs bs hs = 0 then sel (isK ns 2) ns.length else []) ∧ IntsAt w' p l ∧ Below w.heap.size w w' := by
 have HB0 : Hid (Below w.heap.size w (w.alloc (.cells (Mv.cells ⟨a0, c0, a1, is.length, c1, a2, xs.length, c2, a3, bs.length, c3, a4, hs.length, c4⟩ ns.length) 51))) := bal (Below.refl _ _) _
 have HBx := hide (Box.new w ⟨a0, c0, a1, is.length, c1, a2, xs.length, c2, a3, bs.length, c3, a4, hs.length, c4⟩ ns.length)
 have HK := hide (fun _ : Unit => check_any a0 a1 a2 a3 a4 c0 c1 c2 c3 c4 ns is xs bs hs (by unfold maxLen; omega) hli hlx hlb hlh _ (hN.later HB0.out) (hI.later HB0.out) (hX.later HB0.out) (hBs.later HB0.out) (hHs.later HB0.out))
 generalize checkE ns is xs bs hs = ce at *
 go_enter Tryz.func119, Tryz.ntmps119
 go_wp2_with fail
 refine (HK.out ()).mono ?_
 rintro e w1 ⟨rfl, hb1⟩
 have hbw := bthen HB0.out hb1
 have HBB := hide (HBx.out.later hb1)
 have hbox := HBB.out
 simp only [Box] at hbox
 obtain ⟨q0, q1, q2, q3, q4⟩ := hbox
 by_cases hce : ce = 0
 · subst hce
   have HO := hide (fun _ : Unit => ofKind_any a0 c0 ns hln 2 w1 (hN.later hbw))
   go_wp2_with fail
   refine (HO.out ()).mono ?_
   rintro e w2 ⟨p, cap, rfl, hl, hb2⟩
   go_wp2
   go_ret2
   exact ⟨p, cap, _, rfl, by simp, hl, bthen hbw hb2⟩
 · have hne : (ce != 0) = true := by simp [hce]
   have HE := hide hce
   clear hce
   go_wp2
   go_ret2
   exact ⟨none, 0, [], rfl, by first | rfl | rw [if_neg HE.out], fun h => by simp at h, hbw⟩
end Go.Proofs.YtmambfdimeeijaaGreatDoor.Ev

namespace Go.Proofs.YtmambfdimeeijaaGreatDoor.Ev
open Go.RowKit
set_option maxRecDepth 100000
theorem getD_set (b : List Bool) (k j : Nat) (hk : k < b.length) : (b.set k true).getD j false = if j = k then true else b.getD j false := by
 simp only [List.getD, List.getElem?_set]
 by_cases h : j = k
 · subst h; simp [hk]
 · have h' : ¬ k = j := fun e => h e.symm
   simp [h, h']
end Go.Proofs.YtmambfdimeeijaaGreatDoor.Ev

namespace Go.Proofs.YtmambfdimeeijaaGreatDoor.Ev
open Go.RowKit
set_option maxRecDepth 100000
end Go.Proofs.YtmambfdimeeijaaGreatDoor.Ev

namespace Go.Proofs.YtmambfdimeeijaaGreatDoor.Ev
open Go.RowKit
set_option maxRecDepth 100000
theorem owns_below {w w1 : World} {base : Nat} {e : TypeId} {size : Nat} {v : Value} {n : Nat} {xs : List Value} (h : w.ownsRow base e size v n xs) (hb : Below w.heap.size w w1) : w1.ownsRow base e size v n xs := by
 refine ⟨h.1, ?_⟩
 rcases h.2 with h0 | ⟨g, cap, cur, hv, hg, hh, r⟩
 · exact .inl h0
 · refine .inr ⟨g, cap, cur, hv, hg, ?_, r⟩
   obtain ⟨h1, _⟩ := Array.getElem?_eq_some_iff.1 hh
   rw [hb.block g h1]
   exact hh
theorem owns_set {w : World} {base : Nat} {e : TypeId} {size : Nat} {v : Value} {n : Nat} {xs : List Value} (h : w.ownsRow base e size v n xs) (a : Addr) (u : Value) (ha : a.block < base) : (w.setCell a u).ownsRow base e size v n xs := by
 refine ⟨h.1, ?_⟩
 rcases h.2 with h0 | ⟨g, cap, cur, hv, hg, hh, r⟩
 · exact .inl h0
 · refine .inr ⟨g, cap, cur, hv, hg, ?_, r⟩
   rw [Below.heap_setCell w a u g (by omega)]
   exact hh
def lenOf : Value → Nat | .slice _ n _ => n | _ => 0
end Go.Proofs.YtmambfdimeeijaaGreatDoor.Ev

namespace Go.Proofs.YtmambfdimeeijaaGreatDoor.Ev
open Go.RowKit
set_option maxRecDepth 100000
theorem firstE_zero {f : Int × Int → Int} {l : List (Int × Int)} (h : firstE f l = 0) : ∀ p ∈ l, f p = 0 := by
 induction l with
 | nil => intro p hp; cases hp
 | cons q t ih =>
   simp only [firstE] at h
   by_cases hq : f q = 0
   · rw [if_neg (by simp [hq])] at h
     intro p hp
     rcases List.mem_cons.1 hp with rfl | hp
     · exact hq
     · exact ih h p hp
   · rw [if_pos hq] at h
     exact absurd h hq
theorem pairs_zero {ns : List Nd} {is xs : List (Int × Int)} (h : pairsE ns is xs = 0) : (∀ p ∈ is, initE ns p = 0) ∧ (∀ p ∈ xs, pairE ns p.1 p.2 = 0) ∧ dup (fsts is) = false ∧ dup (fsts xs) = false := by
 unfold pairsE at h
 by_cases h1 : firstE (initE ns) is = 0
 · rw [if_neg (by simp [h1])] at h
   by_cases h2 : firstE (nextE ns) xs = 0
   · rw [if_neg (by simp [h2])] at h
     by_cases h3 : (dup (fsts is) || dup (fsts xs)) = true
     · rw [if_pos h3] at h; omega
     · simp only [Bool.or_eq_true, not_or, Bool.not_eq_true] at h3
       exact ⟨firstE_zero h1, firstE_zero h2, h3.1, h3.2⟩
   · rw [if_pos h2] at h; exact absurd h h2
 · rw [if_pos h1] at h; exact absurd h h1
theorem check_zero {ns : List Nd} {is xs : List (Int × Int)} {bs hs : List Int} (h : checkE ns is xs bs hs = 0) :
   (ns.length ≤ 80 ∧ bs.length ≤ 8 ∧ hs.length ≤ 8) ∧ firstN (nodeAtE ns) ns.length = 0 ∧ pairsE ns is xs = 0 ∧ marksE ns xs bs hs = 0 := by
 unfold checkE at h
 by_cases h1 : 80 < ns.length ∨ 8 < bs.length ∨ 8 < hs.length
 · rw [if_pos h1] at h; omega
 rw [if_neg h1] at h
 by_cases h2 : firstN (nodeAtE ns) ns.length = 0
 · rw [if_neg (by simp [h2])] at h
   by_cases h3 : 6 < sumW ns (sel (isK ns 2) ns.length) ∨ 10 < sumW ns (sel (isK ns 3) ns.length)
   · rw [if_pos h3] at h; omega
   rw [if_neg h3] at h
   by_cases h4 : pairsE ns is xs = 0
   · rw [if_neg (by simp [h4])] at h
     exact ⟨by omega, h2, h4, h⟩
   · rw [if_pos h4] at h; exact absurd h h4
 · rw [if_pos h2] at h; exact absurd h h2
end Go.Proofs.YtmambfdimeeijaaGreatDoor.Ev

namespace Go.Proofs.YtmambfdimeeijaaGreatDoor.Ev
open Go.RowKit
set_option maxRecDepth 100000
theorem nat_lt_two {x : Nat} {v : Int} (h : x < 2 ^ v.toNat) : isW (x : Int) v = true := isW_iff.2 ⟨by omega, by rw [two_nat]; exact_mod_cast h⟩
theorem lt_nat {a v : Int} (h : isW a v = true) : a.toNat < 2 ^ v.toNat := by
 have := isW_iff.1 h
 rw [two_nat] at this
 omega
theorem emod_isW (x v : Int) : isW (x % two v) v = true := isW_iff.2 ⟨Int.emod_nonneg _ (by have := two_pos v; omega), Int.emod_lt_of_pos _ (two_pos v)⟩
theorem made_isW {k v a b c n wa wb wc : Int} (hfit : fitE k v n wa wb wc = 0) (ha : isW a wa = true) (hb : isW b wb = true) (hc : isW c wc = true) : isW (madeE k v a b c n wa wb) v = true := by
 obtain ⟨hv, hr, hok, hn, hk⟩ := fit_zero hfit
 have h0 := isW_iff.1 ha
 have h1 := isW_iff.1 hb
 have tv := two_pos v
 rcases kinds20 hk with rfl | rfl | rfl | rfl | rfl | rfl | rfl | rfl | rfl | rfl | rfl | rfl | rfl | rfl | rfl | rfl | rfl | rfl | rfl | rfl
 all_goals simp only [okOf] at hok
 all_goals simp only [madeE]
 · obtain rfl : wa = v := by simpa using hok
   refine isW_iff.2 ?_
   simp only [if_pos]
   omega
 · exact emod_isW _ _
 · obtain ⟨rfl, rfl⟩ : wa = v ∧ wb = wa := by simp at hok; omega
   exact nat_lt_two (Nat.lt_of_le_of_lt Nat.and_le_left (lt_nat ha))
 · obtain ⟨rfl, rfl⟩ : wa = v ∧ wb = wa := by simp at hok; omega
   exact nat_lt_two (Nat.or_lt_two_pow (lt_nat ha) (lt_nat hb))
 · obtain ⟨rfl, rfl⟩ : wa = v ∧ wb = wa := by simp at hok; omega
   exact nat_lt_two (Nat.xor_lt_two_pow (lt_nat ha) (lt_nat hb))
 · exact emod_isW _ _
 · exact emod_isW _ _
 · exact emod_isW _ _
 · obtain ⟨rfl, rfl⟩ : wa = v ∧ wb = wa := by simp at hok; omega
   have e1 := Int.ediv_nonneg h0.1 h1.1
   have e2 := Int.ediv_le_self b h0.1
   refine isW_iff.2 ?_
   simp
   split <;> omega
 · obtain ⟨rfl, rfl⟩ : wa = v ∧ wb = wa := by simp at hok; omega
   refine isW_iff.2 ?_
   simp
   split
   · omega
   · have e1 := Int.emod_nonneg a (show b ≠ 0 from by assumption)
     have e2 := Int.emod_lt_of_pos a (show 0 < b from by omega)
     omega
 · simp
   split
   · exact isW_iff.2 ⟨by omega, tv⟩
   · exact emod_isW _ _
 · obtain ⟨rfl, rfl⟩ : wa = v ∧ wb = wa := by simp at hok; omega
   have tb := two_pos b
   have e1 := Int.ediv_nonneg h0.1 (show 0 ≤ two b from by omega)
   have e2 := Int.ediv_le_self (two b) h0.1
   refine isW_iff.2 ?_
   simp
   split <;> omega
 · obtain ⟨_, rfl⟩ : wa = wb ∧ v = 1 := by simpa using hok
   simp [yesOf]
   split <;> decide
 · obtain ⟨_, rfl⟩ : wa = wb ∧ v = 1 := by simpa using hok
   simp [yesOf]
   split <;> decide
 · obtain ⟨_, rfl⟩ : wa = wb ∧ v = 1 := by simpa using hok
   simp [yesOf]
   split <;> decide
 · obtain ⟨⟨_, rfl⟩, rfl⟩ : (wa = 1 ∧ wb = v) ∧ wc = wb := by simp at hok; omega
   simp
   split
   · exact hb
   · exact hc
 · obtain rfl : wa + wb = v := by simpa using hok
   obtain ⟨wa0, wb0, _⟩ := rng_bd hr
   have e : two (wa + wb) = two wa * two wb := by
     unfold two
     rw [Int.toNat_add (by omega) (by omega), Int.pow_add]
   have hm := Int.mul_le_mul_of_nonneg_right (show a ≤ two wa - 1 from by omega) (show 0 ≤ two wb from by omega)
   have hp := Int.mul_nonneg h0.1 (show 0 ≤ two wb from by omega)
   refine isW_iff.2 ?_
   simp
   rw [e]
   rw [Int.sub_mul] at hm
   omega
 · exact emod_isW _ _
 · have hle : wa ≤ v := by simpa using hok
   obtain ⟨wa0, _, _⟩ := rng_bd hr
   have := two_mono wa v (by omega) hle
   refine isW_iff.2 ?_
   simp
   omega
 · exact emod_isW _ _
def ahead (ns : List Nd) (kind : Int) (k : Nat) : Nat := (sel (isK ns kind) k).length
def opv (vs : List Int) (t i x : Int) : Int := if i < t then vs.getD x.toNat 0 else 0
def valAt (ns : List Nd) (sts ins vs : List Int) (k : Nat) : Int :=
 match ns[k]? with
 | none => 0
 | some x => if x.kind = 1 then x.n else if x.kind = 2 then ins.getD (ahead ns 2 k) 0 else if x.kind = 3 then sts.getD (ahead ns 3 k) 0
   else madeE x.kind x.width (opv vs (takes x.kind) 0 x.a) (opv vs (takes x.kind) 1 x.b) (opv vs (takes x.kind) 2 x.c) x.n (wds ns (takes x.kind) 0 x.a) (wds ns (takes x.kind) 1 x.b)
def vals (ns : List Nd) (sts ins : List Int) : Nat → List Int
 | 0 => []
 | k + 1 => vals ns sts ins k ++ [valAt ns sts ins (vals ns sts ins k) k]
theorem vals_len (ns : List Nd) (sts ins : List Int) (k : Nat) : (vals ns sts ins k).length = k := by
 induction k with
 | zero => rfl
 | succ k ih => simp [vals, ih]
def wordsE (ns : List Nd) (kind : Int) (l : List Int) : Int :=
 if l.length ≠ (sel (isK ns kind) ns.length).length then 2
 else if (List.range l.length).any (fun i => !isW (l.getD i 0) (wdOf ns ((sel (isK ns kind) ns.length).getD i 0))) then 3 else 0
theorem sel_prefix (f : Nat → Bool) {k n : Nat} (h : k ≤ n) : (sel f k) <+: (sel f n) := by
 induction n with
 | zero => obtain rfl : k = 0 := by omega
           exact List.prefix_refl _
 | succ n ih =>
   rcases Nat.lt_or_ge k (n + 1) with h1 | h1
   · refine List.IsPrefix.trans (ih (by omega)) ?_
     cases hf : f n
     · rw [sel_no hf]; exact List.prefix_refl _
     · rw [sel_yes hf]; exact List.prefix_append _ _
   · obtain rfl : k = n + 1 := by omega
     exact List.prefix_refl _
theorem sel_place {f : Nat → Bool} {k n : Nat} (hk : k < n) (hf : f k = true) : (sel f k).length < (sel f n).length ∧ (sel f n).getD (sel f k).length 0 = (k : Int) := by
 have h := sel_prefix f (show k + 1 ≤ n from hk)
 rw [sel_yes hf] at h
 obtain ⟨t, ht⟩ := h
 rw [← ht]
 constructor
 · simp
 · simp [List.getD]
theorem words_zero {ns : List Nd} {kind : Int} {l : List Int} (h : wordsE ns kind l = 0) : l.length = (sel (isK ns kind) ns.length).length ∧ ∀ k, k < ns.length → isK ns kind k = true → ahead ns kind k < l.length ∧ isW (l.getD (ahead ns kind k) 0) (wdOf ns k) = true := by
 unfold wordsE at h
 by_cases h1 : l.length = (sel (isK ns kind) ns.length).length
 · rw [if_neg (by simp [h1])] at h
   refine ⟨h1, fun k hk hf => ?_⟩
   obtain ⟨p1, p2⟩ := sel_place hk hf
   have hlt : ahead ns kind k < l.length := by unfold ahead; omega
   refine ⟨hlt, ?_⟩
   by_cases h2 : (List.range l.length).any (fun i => !isW (l.getD i 0) (wdOf ns ((sel (isK ns kind) ns.length).getD i 0))) = true
   · rw [if_pos h2] at h; omega
   · have := List.any_eq_false.1 ((Bool.not_eq_true _).mp h2) (ahead ns kind k) (List.mem_range.2 hlt)
     rw [show (sel (isK ns kind) ns.length).getD (ahead ns kind k) 0 = (k : Int) from p2] at this
     simpa using this
 · rw [if_pos h1] at h; omega
end Go.Proofs.YtmambfdimeeijaaGreatDoor.Ev

namespace Go.Proofs.YtmambfdimeeijaaGreatDoor.Ev
open Go.RowKit
set_option maxRecDepth 100000
theorem op_isW {ns : List Nd} {vs : List Int} {t i x : Int} (h : i < t → isW (vs.getD x.toNat 0) (wdOf ns x) = true) : isW (opv vs t i x) (wds ns t i x) = true := by
 unfold opv wds
 by_cases hi : i < t
 · rw [if_pos hi, if_pos hi]; exact h hi
 · rw [if_neg hi, if_neg hi]; decide
theorem opE_fit {ns : List Nd} {i : Nat} {x : Nd} (h : opE ns i x = 0) : fitE x.kind x.width x.n (wds ns (takes x.kind) 0 x.a) (wds ns (takes x.kind) 1 x.b) (wds ns (takes x.kind) 2 x.c) = 0 := by
 unfold opE at h
 split at h
 · omega
 · exact h
theorem opE_in {ns : List Nd} {i : Nat} {x : Nd} (h : opE ns i x = 0) : (0 < takes x.kind → 0 ≤ x.a ∧ x.a < i) ∧ (1 < takes x.kind → 0 ≤ x.b ∧ x.b < i) ∧ (2 < takes x.kind → 0 ≤ x.c ∧ x.c < i) ∧ (takes x.kind < 2 → x.b = 0) ∧ (takes x.kind < 3 → x.c = 0) := by
 unfold opE at h
 by_cases hb : (badOn (takes x.kind) 0 i x.a || badOn (takes x.kind) 1 i x.b || badOn (takes x.kind) 2 i x.c) = true
 · rw [if_pos hb] at h; omega
 · simp only [Bool.or_eq_true, not_or, Bool.not_eq_true] at hb
   obtain ⟨⟨h0, h1⟩, h2⟩ := hb
   refine ⟨fun ht => bad_false h0 ht, fun ht => bad_false h1 ht, fun ht => bad_false h2 ht, fun ht => ?_, fun ht => ?_⟩
   · unfold badOn at h1
     rw [if_neg (by omega)] at h1
     simpa using h1
   · unfold badOn at h2
     rw [if_neg (by omega)] at h2
     simpa using h2
theorem vals_at (ns : List Nd) (sts ins : List Int) {k n : Nat} (h : k < n) : (vals ns sts ins n).getD k 0 = valAt ns sts ins (vals ns sts ins k) k := by
 induction n with
 | zero => omega
 | succ n ih =>
   have hl := vals_len ns sts ins n
   simp only [vals, List.getD, List.getElem?_append]
   rcases Nat.lt_succ_iff_lt_or_eq.1 h with h1 | rfl
   · rw [if_pos (by omega)]
     exact ih h1
   · rw [if_neg (by omega), hl]
     simp
theorem vals_isW {ns : List Nd} {sts ins : List Int} (hn : firstN (nodeAtE ns) ns.length = 0) (hs : wordsE ns 3 sts = 0) (hi : wordsE ns 2 ins = 0) :
   ∀ k, k < ns.length → isW (valAt ns sts ins (vals ns sts ins k) k) (wdOf ns k) = true := by
 intro k
 induction k using Nat.strongRecOn with
 | ind k ih =>
   intro hk
   have hnode := firstN_zero.1 hn k hk
   rw [nodeAtE_at hk] at hnode
   obtain ⟨hw, hkd, _, h4, hlf⟩ := node_zero hnode
   have hwd : wdOf ns k = ns[k].width := by unfold wdOf; rw [Int.toNat_natCast, List.getElem?_eq_getElem hk]
   unfold valAt
   rw [List.getElem?_eq_getElem hk]
   simp only
   by_cases k1 : ns[k].kind = 1
   · rw [if_pos k1, hwd]
     have := hlf (by omega)
     unfold leafE at this
     by_cases hW : isW ns[k].n ns[k].width = true
     · exact hW
     · rw [if_pos ⟨k1, (Bool.not_eq_true _).mp hW⟩] at this
       omega
   · rw [if_neg k1]
     by_cases k2 : ns[k].kind = 2
     · rw [if_pos k2]
       exact ((words_zero hi).2 k hk (by rw [isK_at hk, k2]; rfl)).2
     · rw [if_neg k2]
       by_cases k3 : ns[k].kind = 3
       · rw [if_pos k3]
         exact ((words_zero hs).2 k hk (by rw [isK_at hk, k3]; rfl)).2
       · rw [if_neg k3, hwd]
         have hop := h4 (by omega)
         obtain ⟨i0, i1, i2, _, _⟩ := opE_in hop
         have key : ∀ x : Int, 0 ≤ x ∧ x < k → isW ((vals ns sts ins k).getD x.toNat 0) (wdOf ns x) = true := by
           intro x hx
           rw [vals_at ns sts ins (show x.toNat < k by omega)]
           have := ih x.toNat (by omega) (by omega)
           rwa [show ((x.toNat : Nat) : Int) = x by omega] at this
         exact made_isW (opE_fit hop) (op_isW (fun h => key _ (i0 h))) (op_isW (fun h => key _ (i1 h))) (op_isW (fun h => key _ (i2 h)))
theorem wordsE_hit {ns : List Nd} {kind : Int} {l : List Int} (hl : l.length = (sel (isK ns kind) ns.length).length) {k : Nat} (hk : k < l.length) (h : isW (l.getD k 0) (wdOf ns ((sel (isK ns kind) ns.length).getD k 0)) = false) : wordsE ns kind l = 3 := by
 unfold wordsE
 rw [if_neg (by simp [hl]), if_pos (List.any_eq_true.2 ⟨k, List.mem_range.2 hk, by rw [h]; rfl⟩)]
theorem wordsE_ok {ns : List Nd} {kind : Int} {l : List Int} (hl : l.length = (sel (isK ns kind) ns.length).length) (h : ∀ k, k < l.length → isW (l.getD k 0) (wdOf ns ((sel (isK ns kind) ns.length).getD k 0)) = true) : wordsE ns kind l = 0 := by
 unfold wordsE
 rw [if_neg (by simp [hl]), if_neg]
 rw [Bool.not_eq_true, List.any_eq_false]
 intro i hi
 rw [h i (List.mem_range.1 hi)]
 simp
theorem getD_at {l : List Int} {k : Nat} (h : k < l.length) : l.getD k 0 = l[k] := by simp [List.getD, List.getElem?_eq_getElem h]
set_option maxRecDepth 100000 in
set_option maxHeartbeats 2000000 in
theorem fitW_any (m : Mv) (ns : List Nd) (hl : ns.length ≤ 80) (hW : Wok ns) (kind : Int) (l : List Int) (p : Option Addr) (cap : Nat) (hll : l.length ≤ maxLen) (w : World) (hN : NodesAt w m.a0 ns) (hI : IntsAt w p l) :
   Calls Tryz.prog 140 #[m.val ns.length, .int .i64 kind, .slice p l.length cap] w fun e w' => e = .returned (.int .i64 (wordsE ns kind l)) ∧ Below w.heap.size w w' := by
 obtain ⟨a0, c0, a1, l1, c1, a2, l2, c2, a3, l3, c3, a4, l4, c4⟩ := m
 simp only at hN
 unfold maxLen at hll
 have HW := hide hW
 have HI := hide hI
 have HN := hide hN
 have HBx := hide (Box.new w ⟨a0, c0, a1, l1, c1, a2, l2, c2, a3, l3, c3, a4, l4, c4⟩ ns.length)
 have HB0 : Hid (Below w.heap.size w (w.alloc (.cells (Mv.cells ⟨a0, c0, a1, l1, c1, a2, l2, c2, a3, l3, c3, a4, l4, c4⟩ ns.length) 51))) := bal (Below.refl _ _) _
 have HK := hide (fun _ : Unit => ofKind_any a0 c0 ns (by omega) kind _ (hN.later HB0.out))
 have HBD : Hid (∀ k (h : k < (sel (isK ns kind) ns.length).length), 0 ≤ (sel (isK ns kind) ns.length)[k] ∧ (sel (isK ns kind) ns.length)[k] < ns.length) := fun k h => sel_bd h
 have hsl := sel_len (isK ns kind) ns.length
 have HH := hide (@wordsE_hit ns kind l)
 have HO := hide (@wordsE_ok ns kind l)
 have HM : Hid (l.length ≠ (sel (isK ns kind) ns.length).length → wordsE ns kind l = 2) := fun h => by unfold wordsE; rw [if_pos h]
 clear hN hI hW
 generalize sel (isK ns kind) ns.length = S at *
 generalize wordsE ns kind l = we at *
 go_enter Tryz.func140, Tryz.ntmps140
 go_wp2_with fail
 refine (HK.out ()).mono ?_
 rintro e w1 ⟨q, qc, rfl, hQ, hb1⟩
 have HB1 := hide (bthen HB0.out hb1)
 have HX1 := hide (HBx.out.later hb1)
 have HQ := hide hQ
 have q0 := HX1.out.1
 clear hb1 hQ HB0 HBx HK
 by_cases hlen : l.length = S.length
 · have hne : ((l.length : Int) != (S.length : Int)) = false := by simp [hlen]
   have HL := hide hlen
   clear hlen HM
   go_wp2
   go_loopw [21] (fun i wr => ∃ k : Nat, k ≤ S.length ∧ i = .int .i64 k ∧ Below w1.heap.size w1 wr ∧ Hid (∀ i, i < k → isW (l.getD i 0) (wdOf ns (S.getD i 0)) = true)) (fun i _ => S.length - (intOf i).toNat)
   case atStart => exact ⟨0, Nat.zero_le _, rfl, Below.refl _ _, fun i hi => by omega⟩
   case round =>
     obtain ⟨k, hk, rfl, hbw, hz⟩ := hrel
     clear q0
     have q0 := cell_later hbw HX1.out.1
     by_cases hlt : k < S.length
     · have hlt2 : k < l.length := by have := HL.out; omega
       obtain ⟨b, off, rfl, hc⟩ := (HQ.out.later hbw) (by omega)
       obtain ⟨b2, off2, rfl, hc2⟩ := (HI.out.later (bthen HB1.out hbw)) (by omega)
       have d0 := hc k hlt
       have d1 := hc2 k hlt2
       have hkl : (k : Int) < (S.length : Int) := by omega
       have hkl2 : (k : Int) < (l.length : Int) := by omega
       obtain ⟨s0, s1⟩ := HBD.out k hlt
       have HY : Hid (isW l[k] (wdOf ns S[k]) = false → we = 3) := fun h => HH.out HL.out hlt2 (by rw [getD_at hlt2, getD_at hlt]; exact h)
       have HZ : Hid (isW l[k] (wdOf ns S[k]) = true → ∀ i, i < k + 1 → isW (l.getD i 0) (wdOf ns (S.getD i 0)) = true) := by
         intro h i hik
         rcases Nat.lt_succ_iff_lt_or_eq.1 hik with h1 | rfl
         · exact hz.out i h1
         · rw [getD_at hlt2, getD_at hlt]; exact h
       clear hc hc2 hz
       generalize l[k] = x at *
       generalize S[k] = s at *
       obtain ⟨nb, noff, rfl, hnc⟩ := (HN.out.later (bthen HB1.out hbw)) (by omega)
       have k2 := (kd_wd hnc s s0 s1).2
       have HBT := hide (fun w => isWord_any x (wdOf ns s) (wdOf_bd HW.out s) w)
       clear hnc
       generalize wdOf ns s = wd at *
       cases hxb : isW x wd
       · have HE := hide (HY.out hxb)
         rw [hxb] at HBT
         clear HY HZ hxb
         go_wp2
         go_quiet (first | (go_at_call 137; exact Calls.quiet_of_same (HBT.out _)))
         go_wp2
         go_ret
         exact ⟨ret_int HE.out.symm, below_drewN (bthen HB1.out hbw) _⟩
       · have HZ2 := hide (HZ.out hxb)
         rw [hxb] at HBT
         clear HY HZ hxb
         go_wp2
         go_quiet (first | (go_at_call 137; exact Calls.quiet_of_same (HBT.out _)))
         go_wp2
         go_roundw
         case rel => first | exact ⟨k + 1, by omega, by go_num, below_drewN hbw _, HZ2⟩ | ((repeat apply Exists.intro); exact ⟨⟨k + 1, by omega, by go_num, below_drewN hbw _, HZ2⟩, rfl⟩)
         case measure => simp [intOf]; omega
     · have HE : Hid (we = 0) := HO.out HL.out (fun i hi => hz.out i (by have := HL.out; omega))
       clear hz
       go_wp2
       go_ret
       exact ⟨ret_int HE.out.symm, bthen HB1.out hbw⟩
 · have hne : ((l.length : Int) != (S.length : Int)) = true := by simp; omega
   have HE := hide (HM.out hlen)
   clear hlen HM
   go_wp2
   go_ret
   exact ⟨ret_int HE.out.symm, HB1.out⟩
end Go.Proofs.YtmambfdimeeijaaGreatDoor.Ev

namespace Go.Proofs.YtmambfdimeeijaaGreatDoor.Ev
open Go.RowKit
set_option maxRecDepth 100000
def IRow (w : World) (g : Nat) (l : List Int) : Prop := ∀ (j : Nat) (h : j < l.length), w.cell? ⟨g, j, none⟩ = some (.int .i64 l[j]) ∧ w.frozen? ⟨g, j, none⟩ = false
theorem IRow.later {w w1 : World} {g : Nat} {l : List Int} (h : IRow w g l) (hb : Below w.heap.size w w1) : IRow w1 g l := fun j hj =>
 ⟨cell_later hb (h j hj).1, frozen_later hb (h j hj).1 (h j hj).2⟩
theorem IRow.set {w : World} {g : Nat} {l : List Int} (h : IRow w g l) (k : Nat) (x : Int) : IRow (w.setCell ⟨g, k, none⟩ (.int .i64 x)) g (l.set k x) := by
 intro j hj
 have hj' : j < l.length := by simpa using hj
 refine ⟨?_, (World.frozen?_setCell _ _ _ _).trans (h j hj').2⟩
 by_cases e : k = j
 · subst e
   rw [World.cell?_setCell_same _ _ _ (h k hj').1]
   simp
 · rw [World.cell?_setCell_other _ _ _ _ (by simp), (h j hj').1, List.getElem_set_ne e]
theorem IRow.other {w : World} {g g2 : Nat} {l : List Int} (h : IRow w g l) (hne : ¬ g = g2) (k : Nat) (u : Value) : IRow (w.setCell ⟨g2, k, none⟩ u) g l := fun j hj =>
 ⟨keepOther hne (h j hj).1, (World.frozen?_setCell _ _ _ _).trans (h j hj).2⟩
theorem IRow.at {w : World} {g : Nat} {l : List Int} (h : IRow w g l) (x : Int) (h0 : 0 ≤ x) (h1 : x < l.length) : w.cell? ⟨g, x.toNat, none⟩ = some (.int .i64 (l.getD x.toNat 0)) := by
 rw [(h x.toNat (by omega)).1, getD_at]
theorem ints_other {w : World} {h g2 k : Nat} {l : List Int} {u : Value} (hI : IntsAt w (some ⟨h, 0, none⟩) l) (hne : ¬ h = g2) : IntsAt (w.setCell ⟨g2, k, none⟩ u) (some ⟨h, 0, none⟩) l := by
 intro h0
 obtain ⟨b, off, hp, hc⟩ := hI h0
 obtain ⟨rfl, rfl⟩ : h = b ∧ 0 = off := by injection hp with hp; injection hp with h1 h2; exact ⟨h1, h2⟩
 exact ⟨h, 0, rfl, fun i hi => keepOther hne (hc i hi)⟩
def putL (f : Int → Int) (L : List Int) (k : Nat) : List Int := (L.take k).map f ++ List.replicate (3 - k) 0
theorem putL_len {f : Int → Int} {L : List Int} {k : Nat} (hL : L.length ≤ 3) (hk : k ≤ L.length) : (putL f L k).length = 3 := by
 unfold putL; simp; omega
theorem putL_set {f : Int → Int} {L : List Int} {k : Nat} (hL : L.length ≤ 3) (hk : k < L.length) : (putL f L k).set k (f L[k]) = putL f L (k + 1) := by
 unfold putL
 have e1 : 3 - k = (3 - (k + 1)) + 1 := by omega
 have e2 : ((L.take k).map f).length = k := by simp; omega
 rw [e1, List.replicate_succ, List.set_append_right _ _ (by omega), e2, Nat.sub_self, List.set_cons_zero, List.take_succ_eq_append_getElem hk, List.map_append]
 simp
theorem putL_all (x : Nd) (f : Int → Int) : putL f (opsL x) (opsL x).length = [if 0 < takes x.kind then f x.a else 0, if 1 < takes x.kind then f x.b else 0, if 2 < takes x.kind then f x.c else 0] := by
 unfold putL
 rw [List.take_length]
 unfold opsL
 rcases takes_four x.kind with h | h | h | h <;> rw [h] <;> rfl
set_option maxRecDepth 100000 in
set_option maxHeartbeats 2000000 in
theorem operandsF_at (k v x y z n : Int) (t : Nat) (ht : takes k = t) (h4 : t = 0 ∨ t = 1 ∨ t = 2 ∨ t = 3) (w : World) :
   Calls Tryz.prog 124 #[.agg #[.int .i64 k, .int .i64 v, .int .i64 x, .int .i64 y, .int .i64 z, .int .i64 n]] w fun e w' =>
     ∃ g, w.heap.size ≤ g ∧ e = .returned (.slice (some ⟨g, 0, none⟩) t 3) ∧ IntsAt w' (some ⟨g, 0, none⟩) ([x, y, z].take t) ∧ Below w.heap.size w w' := by
 have hw := words_any k
 rw [ht] at hw
 have Hw : Hid _ := hw
 clear hw ht
 rcases h4 with rfl | rfl | rfl | rfl
 all_goals
   go_enter Tryz.func124, Tryz.ntmps124
   go_wp2
   have z0 : (w.alloc (.cells #[.int .i64 k, .int .i64 v, .int .i64 x, .int .i64 y, .int .i64 z, .int .i64 n] 73)).cell? ⟨w.heap.size, 0, none⟩ = some (.int .i64 k) := by simp [go_sem]
   have z2 : (w.alloc (.cells #[.int .i64 k, .int .i64 v, .int .i64 x, .int .i64 y, .int .i64 z, .int .i64 n] 73)).cell? ⟨w.heap.size, 2, none⟩ = some (.int .i64 x) := by simp [go_sem]
   have z3 : (w.alloc (.cells #[.int .i64 k, .int .i64 v, .int .i64 x, .int .i64 y, .int .i64 z, .int .i64 n] 73)).cell? ⟨w.heap.size, 3, none⟩ = some (.int .i64 y) := by simp [go_sem]
   have z4 : (w.alloc (.cells #[.int .i64 k, .int .i64 v, .int .i64 x, .int .i64 y, .int .i64 z, .int .i64 n] 73)).cell? ⟨w.heap.size, 4, none⟩ = some (.int .i64 z) := by simp [go_sem]
   have hbx : Below w.heap.size w (w.alloc (.cells #[.int .i64 k, .int .i64 v, .int .i64 x, .int .i64 y, .int .i64 z, .int .i64 n] 73)) := bal (Below.refl _ _) _
   have hgt : w.heap.size < (w.alloc (.cells #[.int .i64 k, .int .i64 v, .int .i64 x, .int .i64 y, .int .i64 z, .int .i64 n] 73)).heap.size := by simp
   generalize w.alloc (.cells #[.int .i64 k, .int .i64 v, .int .i64 x, .int .i64 y, .int .i64 z, .int .i64 n] 73) = wb at *
   go_region_held3 (fun w' => w'.cell? ⟨w.heap.size, 0, none⟩ = some (.int .i64 k) ∧ w'.cell? ⟨w.heap.size, 2, none⟩ = some (.int .i64 x) ∧ w'.cell? ⟨w.heap.size, 3, none⟩ = some (.int .i64 y) ∧ w'.cell? ⟨w.heap.size, 4, none⟩ = some (.int .i64 z)) (go_keep) ((go_at_call 135; refine (Hw.out _).mono ?_; rintro e w' ⟨rfl, rfl⟩))
   all_goals
     go_wp2
     go_ret
     refine ⟨wb.heap.size, Nat.le_of_lt hgt, rfl, ints3 _ (by omega) (by simp [go_sem]) (by simp [go_sem]) (by simp [go_sem]), ?_⟩
     exact (bal hbx _).drew
theorem operandsF_any (x : Nd) (w : World) :
   Calls Tryz.prog 124 #[.agg #[.int .i64 x.kind, .int .i64 x.width, .int .i64 x.a, .int .i64 x.b, .int .i64 x.c, .int .i64 x.n]] w fun e w' =>
     ∃ g, w.heap.size ≤ g ∧ e = .returned (.slice (some ⟨g, 0, none⟩) (opsL x).length 3) ∧ IntsAt w' (some ⟨g, 0, none⟩) (opsL x) ∧ Below w.heap.size w w' := by
 obtain ⟨h1, h2⟩ := takes_nat x.kind
 refine (operandsF_at x.kind x.width x.a x.b x.c x.n (takes x.kind).toNat h1 h2 w).mono ?_
 rintro e w' ⟨g, hg, rfl, hI, hb⟩
 exact ⟨g, hg, by rw [opsL_len], hI, hb⟩
set_option maxRecDepth 100000 in
set_option maxHeartbeats 4000000 in
theorem operate_any (m : Mv) (ns : List Nd) (hl : ns.length ≤ 80) (x : Nd) (hx4 : x.kind ≤ 4) (k : Nat) (hk : k < ns.length) (hops : ∀ y ∈ opsL x, 0 ≤ y ∧ y < k) (cur : List Int) (hcur : cur.length = ns.length) (g : Nat) (w : World) (hN : NodesAt w m.a0 ns) (hR : IRow w g cur)
   (hfit : fitE x.kind x.width x.n (wds ns (takes x.kind) 0 x.a) (wds ns (takes x.kind) 1 x.b) (wds ns (takes x.kind) 2 x.c) = 0)
   (ha : isW (opv cur (takes x.kind) 0 x.a) (wds ns (takes x.kind) 0 x.a) = true) (hb : isW (opv cur (takes x.kind) 1 x.b) (wds ns (takes x.kind) 1 x.b) = true) (hc : isW (opv cur (takes x.kind) 2 x.c) (wds ns (takes x.kind) 2 x.c) = true) :
   Calls Tryz.prog 167 #[m.val ns.length, .agg #[.int .i64 x.kind, .int .i64 x.width, .int .i64 x.a, .int .i64 x.b, .int .i64 x.c, .int .i64 x.n], .slice (some ⟨g, 0, none⟩) ns.length ns.length] w fun e w' =>
     e = .returned (.int .i64 (madeE x.kind x.width (opv cur (takes x.kind) 0 x.a) (opv cur (takes x.kind) 1 x.b) (opv cur (takes x.kind) 2 x.c) x.n (wds ns (takes x.kind) 0 x.a) (wds ns (takes x.kind) 1 x.b))) ∧ Below w.heap.size w w' := by
 obtain ⟨a0, c0, a1, l1, c1, a2, l2, c2, a3, l3, c3, a4, l4, c4⟩ := m
 simp only at hN
 have HAP := hide (fun w => apply_not x.kind x.width (opv cur (takes x.kind) 0 x.a) (opv cur (takes x.kind) 1 x.b) (opv cur (takes x.kind) 2 x.c) x.n (wds ns (takes x.kind) 0 x.a) (wds ns (takes x.kind) 1 x.b) (wds ns (takes x.kind) 2 x.c) hx4 hfit ha hb hc w)
 have HGv : Hid (putL (fun y => cur.getD y.toNat 0) (opsL x) (opsL x).length = [opv cur (takes x.kind) 0 x.a, opv cur (takes x.kind) 1 x.b, opv cur (takes x.kind) 2 x.c]) := putL_all x _
 have HGw : Hid (putL (fun y => wdOf ns y) (opsL x) (opsL x).length = [wds ns (takes x.kind) 0 x.a, wds ns (takes x.kind) 1 x.b, wds ns (takes x.kind) 2 x.c]) := putL_all x _
 have HOI := hide (fun w => operandsF_any x w)
 have HLo : Hid ((opsL x).length ≤ 3) := by rw [opsL_len]; have := takes_four x.kind; simp only [Hid]; omega
 have HOps := hide hops
 have HN := hide hN
 have HR := hide hR
 have HC := hide hcur
 clear hfit ha hb hc hN hR hops hcur
 generalize madeE x.kind x.width (opv cur (takes x.kind) 0 x.a) (opv cur (takes x.kind) 1 x.b) (opv cur (takes x.kind) 2 x.c) x.n (wds ns (takes x.kind) 0 x.a) (wds ns (takes x.kind) 1 x.b) = made at *
 generalize opv cur (takes x.kind) 0 x.a = va at *
 generalize opv cur (takes x.kind) 1 x.b = vb at *
 generalize opv cur (takes x.kind) 2 x.c = vc at *
 generalize wds ns (takes x.kind) 0 x.a = wa at *
 generalize wds ns (takes x.kind) 1 x.b = wb at *
 generalize wds ns (takes x.kind) 2 x.c = wc at *
 generalize opsL x = L at *
 obtain ⟨kd, v, xa, xb, xc, n⟩ := x
 simp only at *
 have hb4 : Below w.heap.size w ((((w.alloc (.cells (Mv.cells ⟨a0, c0, a1, l1, c1, a2, l2, c2, a3, l3, c3, a4, l4, c4⟩ ns.length) 51)).alloc (.cells #[.int .i64 kd, .int .i64 v, .int .i64 xa, .int .i64 xb, .int .i64 xc, .int .i64 n] 73)).alloc (.cells #[.int .i64 0, .int .i64 0, .int .i64 0] 164)).alloc (.cells #[.int .i64 0, .int .i64 0, .int .i64 0] 164)) := bal (bal (bal (bal (Below.refl _ _) _) _) _) _
 have q0 : ((((w.alloc (.cells (Mv.cells ⟨a0, c0, a1, l1, c1, a2, l2, c2, a3, l3, c3, a4, l4, c4⟩ ns.length) 51)).alloc (.cells #[.int .i64 kd, .int .i64 v, .int .i64 xa, .int .i64 xb, .int .i64 xc, .int .i64 n] 73)).alloc (.cells #[.int .i64 0, .int .i64 0, .int .i64 0] 164)).alloc (.cells #[.int .i64 0, .int .i64 0, .int .i64 0] 164)).cell? ⟨w.heap.size, 0, none⟩ = some (.slice a0 ns.length c0) := by simp [go_sem]
 have t0 : ((((w.alloc (.cells (Mv.cells ⟨a0, c0, a1, l1, c1, a2, l2, c2, a3, l3, c3, a4, l4, c4⟩ ns.length) 51)).alloc (.cells #[.int .i64 kd, .int .i64 v, .int .i64 xa, .int .i64 xb, .int .i64 xc, .int .i64 n] 73)).alloc (.cells #[.int .i64 0, .int .i64 0, .int .i64 0] 164)).alloc (.cells #[.int .i64 0, .int .i64 0, .int .i64 0] 164)).cell? ⟨w.heap.size + 1, 0, none⟩ = some (.int .i64 kd) := by simp [go_sem]
 have t1 : ((((w.alloc (.cells (Mv.cells ⟨a0, c0, a1, l1, c1, a2, l2, c2, a3, l3, c3, a4, l4, c4⟩ ns.length) 51)).alloc (.cells #[.int .i64 kd, .int .i64 v, .int .i64 xa, .int .i64 xb, .int .i64 xc, .int .i64 n] 73)).alloc (.cells #[.int .i64 0, .int .i64 0, .int .i64 0] 164)).alloc (.cells #[.int .i64 0, .int .i64 0, .int .i64 0] 164)).cell? ⟨w.heap.size + 1, 1, none⟩ = some (.int .i64 v) := by simp [go_sem]
 have t5 : ((((w.alloc (.cells (Mv.cells ⟨a0, c0, a1, l1, c1, a2, l2, c2, a3, l3, c3, a4, l4, c4⟩ ns.length) 51)).alloc (.cells #[.int .i64 kd, .int .i64 v, .int .i64 xa, .int .i64 xb, .int .i64 xc, .int .i64 n] 73)).alloc (.cells #[.int .i64 0, .int .i64 0, .int .i64 0] 164)).alloc (.cells #[.int .i64 0, .int .i64 0, .int .i64 0] 164)).cell? ⟨w.heap.size + 1, 5, none⟩ = some (.int .i64 n) := by simp [go_sem]
 have HG0 : Hid (IRow ((((w.alloc (.cells (Mv.cells ⟨a0, c0, a1, l1, c1, a2, l2, c2, a3, l3, c3, a4, l4, c4⟩ ns.length) 51)).alloc (.cells #[.int .i64 kd, .int .i64 v, .int .i64 xa, .int .i64 xb, .int .i64 xc, .int .i64 n] 73)).alloc (.cells #[.int .i64 0, .int .i64 0, .int .i64 0] 164)).alloc (.cells #[.int .i64 0, .int .i64 0, .int .i64 0] 164)) (w.heap.size + 1 + 1) (putL (fun y => cur.getD y.toNat 0) L 0)) := by
   intro j hj
   match j, hj with
   | 0, _ => simp [go_sem, putL]
   | 1, _ => simp [go_sem, putL]
   | 2, _ => simp [go_sem, putL]
 have HW0 : Hid (IRow ((((w.alloc (.cells (Mv.cells ⟨a0, c0, a1, l1, c1, a2, l2, c2, a3, l3, c3, a4, l4, c4⟩ ns.length) 51)).alloc (.cells #[.int .i64 kd, .int .i64 v, .int .i64 xa, .int .i64 xb, .int .i64 xc, .int .i64 n] 73)).alloc (.cells #[.int .i64 0, .int .i64 0, .int .i64 0] 164)).alloc (.cells #[.int .i64 0, .int .i64 0, .int .i64 0] 164)) (w.heap.size + 1 + 1 + 1) (putL (fun y => wdOf ns y) L 0)) := by
   intro j hj
   match j, hj with
   | 0, _ => simp [go_sem, putL]
   | 1, _ => simp [go_sem, putL]
   | 2, _ => simp [go_sem, putL]
 have HR4 := hide (HR.out.later hb4)
 have hg : g < w.heap.size := World.block_lt_of_cell? _ _ (HR.out 0 (by rw [HC.out]; omega)).1
 have hs4 : w.heap.size + 1 + 1 + 1 < ((((w.alloc (.cells (Mv.cells ⟨a0, c0, a1, l1, c1, a2, l2, c2, a3, l3, c3, a4, l4, c4⟩ ns.length) 51)).alloc (.cells #[.int .i64 kd, .int .i64 v, .int .i64 xa, .int .i64 xb, .int .i64 xc, .int .i64 n] 73)).alloc (.cells #[.int .i64 0, .int .i64 0, .int .i64 0] 164)).alloc (.cells #[.int .i64 0, .int .i64 0, .int .i64 0] 164)).heap.size := by simp
 have HB4 := hide hb4
 clear hb4 HR
 go_enter Tryz.func167, Tryz.ntmps167
 go_wp2_with fail
 generalize ((((w.alloc (.cells (Mv.cells ⟨a0, c0, a1, l1, c1, a2, l2, c2, a3, l3, c3, a4, l4, c4⟩ ns.length) 51)).alloc (.cells #[.int .i64 kd, .int .i64 v, .int .i64 xa, .int .i64 xb, .int .i64 xc, .int .i64 n] 73)).alloc (.cells #[.int .i64 0, .int .i64 0, .int .i64 0] 164)).alloc (.cells #[.int .i64 0, .int .i64 0, .int .i64 0] 164)) = w4 at *
 refine (HOI.out _).mono ?_
 rintro e w5 ⟨h, hh, rfl, hI, hb5⟩
 have HI := hide hI
 have HB5 := hide (bthen HB4.out hb5)
 have HG5 := hide (HG0.out.later hb5)
 have HW5 := hide (HW0.out.later hb5)
 have HR5 := hide (HR4.out.later hb5)
 have u0 := cell_later hb5 q0
 have u1 := cell_later hb5 t0
 have u2 := cell_later hb5 t1
 have u3 := cell_later hb5 t5
 clear hI hb5 HG0 HW0 HR4 q0 t0 t1 t5 HB4 HOI
 generalize hN1 : w.heap.size + 1 + 1 = N2 at *
 generalize hN2 : N2 + 1 = N3 at *
 have hne : ¬ N2 = N3 ∧ ¬ g = N2 ∧ ¬ g = N3 ∧ ¬ h = N2 ∧ ¬ h = N3 ∧ ¬ w.heap.size = N2 ∧ ¬ w.heap.size = N3 ∧ ¬ w.heap.size + 1 = N2 ∧ ¬ w.heap.size + 1 = N3 := by omega
 obtain ⟨e1, e2, e3, e4, e5, e6, e7, e8, e9⟩ := hne
 have hN2' : w.heap.size ≤ N2 := by omega
 have hN3' : w.heap.size ≤ N3 := by omega
 clear hN1 hN2 hh hs4
 go_wp2
 go_loopw [16] (fun i wr => ∃ j : Nat, j ≤ L.length ∧ i = .int .i64 j ∧ Below w.heap.size w wr ∧ Hid (IRow wr N2 (putL (fun y => cur.getD y.toNat 0) L j)) ∧ Hid (IRow wr N3 (putL (fun y => wdOf ns y) L j)) ∧ Hid (IRow wr g cur) ∧ Hid (IntsAt wr (some ⟨h, 0, none⟩) L) ∧ wr.cell? ⟨w.heap.size, 0, none⟩ = some (.slice a0 ns.length c0) ∧ wr.cell? ⟨w.heap.size + 1, 0, none⟩ = some (.int .i64 kd) ∧ wr.cell? ⟨w.heap.size + 1, 1, none⟩ = some (.int .i64 v) ∧ wr.cell? ⟨w.heap.size + 1, 5, none⟩ = some (.int .i64 n)) (fun i _ => L.length - (intOf i).toNat)
 case atStart => exact ⟨0, Nat.zero_le _, rfl, HB5.out, HG5, HW5, HR5, HI, u0, u1, u2, u3⟩
 case round =>
   clear u0 u1 u2 u3
   obtain ⟨j, hj, rfl, hbw, hG, hWd, hRw, hIL, u0, u1, u2, u3⟩ := hrel
   by_cases hlt : j < L.length
   · obtain ⟨b, off, hp, hcl⟩ := hIL.out (by omega)
     obtain ⟨rfl, rfl⟩ : h = b ∧ 0 = off := by injection hp with hp; injection hp with h1 h2; exact ⟨h1, h2⟩
     have d0 := hcl j hlt
     rw [Nat.zero_add] at d0
     obtain ⟨y0, y1⟩ := HOps.out L[j] (List.getElem_mem hlt)
     have hjl : (j : Int) < (L.length : Int) := by omega
     have hj3 : j < 3 := by have := HLo.out; omega
     have d1 := hRw.out.at L[j] y0 (by rw [HC.out]; omega)
     obtain ⟨nb, noff, rfl, hnc⟩ := HN.out (by omega)
     have hnb : nb < w.heap.size := World.block_lt_of_cell? _ _ (hnc 0 (by omega)).1
     have d2 := cell_later hbw (kd_wd hnc L[j] y0 (by omega)).2
     have f1 : ¬ nb = N2 := by omega
     have f2 : ¬ nb = N3 := by omega
     obtain ⟨g1, g2⟩ := hG.out j (by rw [putL_len HLo.out (by omega)]; omega)
     obtain ⟨g3, g4⟩ := hWd.out j (by rw [putL_len HLo.out (by omega)]; omega)
     have HS1 := hide (putL_set (f := fun y => cur.getD y.toNat 0) HLo.out hlt)
     have HS2 := hide (putL_set (f := fun y => wdOf ns y) HLo.out hlt)
     have hyn : L[j] < (ns.length : Int) := by omega
     generalize (putL (fun y => cur.getD y.toNat 0) L j)[j]'(by rw [putL_len HLo.out (by omega)]; omega) = old1 at *
     generalize (putL (fun y => wdOf ns y) L j)[j]'(by rw [putL_len HLo.out (by omega)]; omega) = old2 at *
     clear hnc hcl hp
     generalize L[j] = y at *
     generalize cur.getD y.toNat 0 = cv at *
     generalize wdOf ns y = wd at *
     have hj22 : (j : Int) < 3 := by omega
     have HFA : Hid (Below w.heap.size w ((wr.setCell ⟨N2, j, none⟩ (.int .i64 cv)).setCell ⟨N3, j, none⟩ (.int .i64 wd)).drew ∧ Hid (IRow ((wr.setCell ⟨N2, j, none⟩ (.int .i64 cv)).setCell ⟨N3, j, none⟩ (.int .i64 wd)).drew N2 (putL (fun y => cur.getD y.toNat 0) L (j + 1))) ∧ Hid (IRow ((wr.setCell ⟨N2, j, none⟩ (.int .i64 cv)).setCell ⟨N3, j, none⟩ (.int .i64 wd)).drew N3 (putL (fun y => wdOf ns y) L (j + 1))) ∧ Hid (IRow ((wr.setCell ⟨N2, j, none⟩ (.int .i64 cv)).setCell ⟨N3, j, none⟩ (.int .i64 wd)).drew g cur) ∧ Hid (IntsAt ((wr.setCell ⟨N2, j, none⟩ (.int .i64 cv)).setCell ⟨N3, j, none⟩ (.int .i64 wd)).drew (some ⟨h, 0, none⟩) L) ∧ ((wr.setCell ⟨N2, j, none⟩ (.int .i64 cv)).setCell ⟨N3, j, none⟩ (.int .i64 wd)).drew.cell? ⟨w.heap.size, 0, none⟩ = some (.slice (some ⟨nb, noff, none⟩) ns.length c0) ∧ ((wr.setCell ⟨N2, j, none⟩ (.int .i64 cv)).setCell ⟨N3, j, none⟩ (.int .i64 wd)).drew.cell? ⟨w.heap.size + 1, 0, none⟩ = some (.int .i64 kd) ∧ ((wr.setCell ⟨N2, j, none⟩ (.int .i64 cv)).setCell ⟨N3, j, none⟩ (.int .i64 wd)).drew.cell? ⟨w.heap.size + 1, 1, none⟩ = some (.int .i64 v) ∧ ((wr.setCell ⟨N2, j, none⟩ (.int .i64 cv)).setCell ⟨N3, j, none⟩ (.int .i64 wd)).drew.cell? ⟨w.heap.size + 1, 5, none⟩ = some (.int .i64 n)) :=
       ⟨((hbw.setCell hN2' _).setCell hN3' _).drew, by rw [← HS1.out]; exact (hG.out.set j cv).other e1 j _, by rw [← HS2.out]; exact (hWd.out.other (fun e => e1 e.symm) j _).set j wd, (hRw.out.other e2 j _).other e3 j _, ints_other (ints_other hIL.out e4) e5, keepOther e7 (keepOther e6 u0), keepOther e9 (keepOther e8 u1), keepOther e9 (keepOther e8 u2), keepOther e9 (keepOther e8 u3)⟩
     go_wp2
     go_region
     all_goals
       clear hG hWd hRw hIL
       go_wp2
       go_roundw
       case rel => first | exact ⟨j + 1, by omega, by go_num, HFA.out⟩ | ((repeat apply Exists.intro); exact ⟨⟨j + 1, by omega, by go_num, HFA.out⟩, rfl⟩)
       case measure => simp [intOf]; omega
   · obtain rfl : j = L.length := by omega
     have hGv := hG.out
     have hWv := hWd.out
     rw [HGv.out] at hGv
     rw [HGw.out] at hWv
     have r0 := (hGv 0 (by simp)).1
     have r1 := (hGv 1 (by simp)).1
     have r2 := (hGv 2 (by simp)).1
     have s0 := (hWv 0 (by simp)).1
     have s1 := (hWv 1 (by simp)).1
     have s2 := (hWv 2 (by simp)).1
     simp only [List.getElem_cons_zero, List.getElem_cons_succ] at r0 r1 r2 s0 s1 s2
     clear hG hWd hRw hIL hGv hWv HGv HGw
     go_wp2_with fail
     refine (HAP.out _).mono ?_
     rintro e w7 ⟨rfl, hb7⟩
     go_wp2
     go_ret
     exact ⟨rfl, bthen hbw hb7⟩
end Go.Proofs.YtmambfdimeeijaaGreatDoor.Ev
