import Derived.Test.YtabnimgpednhjabGreatFvM
import Derived.Test.YtabnimgpednhjabGreatEm
namespace Go.Proofs.YtabnimgpednhjabGreat
open Go.RowKit Go.Maps
set_option maxRecDepth 100000
theorem wordsN_at {ns : List Nd} {S : List Int} {x : Int} {n k : Nat} (h : k < n) : (wordsN ns S x n).getD k 0 = wordN ns S x k := by
 have h1 : k < (wordsN ns S x n).length := by rw [wordsN_len]; exact h
 rw [Gg.getD_at h1]; simp [wordsN]
theorem wordsN_fit (ns : List Nd) (kind x : Int) : wordsE ns kind (wordsN ns (sel (isK ns kind) ns.length) x (sel (isK ns kind) ns.length).length) = 0 := by
 refine wordsE_ok (by rw [wordsN_len]) (fun k hk => ?_)
 rw [wordsN_len] at hk
 rw [wordsN_at hk]
 exact isW_iff.2 (wordN_bd ns _ x k)
theorem two_eight {v : Int} (h : v ≤ 8) : two v ≤ 256 := by
 unfold two
 have h2 : v.toNat ≤ 8 := by omega
 have h1 : (2 : Int) ^ v.toNat ≤ 2 ^ 8 := by
   have h3 : (2 : Nat) ^ v.toNat ≤ 2 ^ 8 := Nat.pow_le_pow_right (by decide) h2
   exact_mod_cast h3
 simpa using h1
theorem words_small {ns : List Nd} (hW : Wok ns) {kind : Int} {l : List Int} (h : wordsE ns kind l = 0) : ∀ x ∈ l, 0 ≤ x ∧ x < 256 := by
 intro x hx
 obtain ⟨j, hj, rfl⟩ := List.getElem_of_mem hx
 obtain ⟨hl, hk⟩ := words_zero h
 have hj' : j < (sel (isK ns kind) ns.length).length := by omega
 obtain ⟨i, hi, hf, he, ha⟩ := ahead_at hj'
 obtain ⟨h1, h2⟩ := hk i hi hf
 unfold ahead at h2
 rw [ha, Gg.getD_at hj] at h2
 obtain ⟨h3, h4⟩ := isW_iff.1 h2
 have hw : wdOf ns i ≤ 8 := by unfold wdOf; rw [Int.toNat_natCast, List.getElem?_eq_getElem hi]; exact (hW i hi).2
 have := two_eight hw
 exact ⟨h3, by omega⟩
theorem bit_test {x : Int} (h0 : 0 ≤ x) (j : Nat) : (x / two (j : Int) % 2 == 1) = x.toNat.testBit j := by
 obtain ⟨n, rfl⟩ := Int.eq_ofNat_of_zero_le h0
 rw [bit_nat, Int.toNat_natCast, Nat.testBit_eq_decide_div_mod_eq]
 generalize n / 2 ^ j % 2 = m
 by_cases h : m = 1
 · subst h; rfl
 · rw [decide_eq_false h]
   simp only [beq_eq_false_iff_ne, ne_eq]
   omega
theorem bitsB_getD {x : Int} {n j : Nat} (h : j < n) : (bitsB x n).getD j false = (x / two (j : Int) % 2 == 1) := by
 rw [List.getD, List.getElem?_eq_getElem (by rw [bitsB_len]; exact h)]
 simp [bitsB]
theorem bitsB_num {x : Int} {n : Nat} (h0 : 0 ≤ x) (h1 : x < two (n : Int)) : Gg.numB (fun j => (bitsB x n).getD j false) n = x.toNat := by
 have h2 : x.toNat < 2 ^ n := by
   have h3 : two (n : Int) = ((2 ^ n : Nat) : Int) := by unfold two; simp
   omega
 rw [Gg.numB_congr (g := fun j => x.toNat.testBit j) (fun j hj => by rw [bitsB_getD hj, bit_test h0]), Gg.numB_of h2]
theorem bitsN_get (ns : List Nd) (S l : List Int) {t j : Nat} (hj : j < (wdOf ns (S.getD t 0)).toNat) (R : List Bool) : ∀ n, t < n → (bitsN ns S l n ++ R).getD ((bitsN ns S l t).length + j) false = (bitsB (l.getD t 0) (wdOf ns (S.getD t 0)).toNat).getD j false := by
 intro n
 induction n generalizing R with
 | zero => intro h; omega
 | succ n ih =>
   intro h
   rw [bitsN, List.append_assoc]
   rcases Nat.lt_succ_iff_lt_or_eq.1 h with h1 | rfl
   · exact ih _ h1
   · rw [List.getD, List.getElem?_append_right (by omega), Nat.add_sub_cancel_left, List.getElem?_append_left (by rw [bitsB_len]; exact hj)]
     rfl
def lenW (ns : List Nd) (S : List Int) (k : Nat) : Nat := ((S.take k).map fun k => (wdOf ns k).toNat).sum
theorem lenW_succ {ns : List Nd} {S : List Int} {k : Nat} (h : k < S.length) : lenW ns S (k + 1) = lenW ns S k + (wdOf ns (S.getD k 0)).toNat := by
 unfold lenW
 rw [List.take_succ_eq_append_getElem h, List.map_append, List.sum_append, Gg.getD_at h]
 simp
theorem bitsN_len (ns : List Nd) (S l : List Int) : ∀ k, k ≤ S.length → (bitsN ns S l k).length = lenW ns S k := by
 intro k
 induction k with
 | zero => intro _; rfl
 | succ k ih =>
   intro h
   rw [bitsN, List.length_append, bitsB_len, ih (by omega), lenW_succ (by omega)]
theorem inT_two {ns : List Nd} {t : Nat} (h : t ≤ (sel (isK ns 2) ns.length).length) : Gg.inT ns t = lenW ns (sel (isK ns 2) ns.length) t := by
 unfold Gg.inT Gg.inL lenW
 rw [List.take_append_of_le_length h]
theorem inT_three {ns : List Nd} (u : Nat) : Gg.inT ns ((sel (isK ns 2) ns.length).length + u) = lenW ns (sel (isK ns 2) ns.length) (sel (isK ns 2) ns.length).length + lenW ns (sel (isK ns 3) ns.length) u := by
 unfold Gg.inT Gg.inL lenW
 rw [List.take_length_add_append, List.map_append, List.sum_append, List.take_length]
theorem lenW_sum {ns : List Nd} (hW : Wok ns) {S : List Int} (hS : ∀ x ∈ S, 0 ≤ x ∧ x < ns.length) : ((lenW ns S S.length : Nat) : Int) = sumW ns S := by
 unfold lenW sumW
 rw [List.take_length]
 induction S with
 | nil => rfl
 | cons a S ih =>
   have ha := hS a (List.mem_cons_self ..)
   have hk : a.toNat < ns.length := by omega
   have hw : 1 ≤ wdOf ns a := by unfold wdOf; rw [List.getElem?_eq_getElem hk]; exact (hW _ hk).1
   have := ih (fun x hx => hS x (List.mem_cons_of_mem _ hx))
   simp only [List.map_cons, List.sum_cons] at this ⊢
   omega
theorem sel_in2 {ns : List Nd} {kind : Int} : ∀ x ∈ sel (isK ns kind) ns.length, 0 ≤ x ∧ x < ns.length := fun x hx => by
 obtain ⟨i, hi, _, rfl⟩ := mem_sel.1 hx
 omega
theorem inT_sum {ns : List Nd} (hW : Wok ns) : ((Gg.inT ns (Gg.inL ns).length : Nat) : Int) = sumW ns (sel (isK ns 2) ns.length) + sumW ns (sel (isK ns 3) ns.length) := by
 rw [Gg.inL_length, inT_three, ← lenW_sum hW sel_in2, ← lenW_sum hW sel_in2]
 omega
theorem sums_bd {ns : List Nd} {is xs : List (Int × Int)} {bs hs : List Int} (h : checkE ns is xs bs hs = 0) : sumW ns (sel (isK ns 2) ns.length) ≤ 6 ∧ sumW ns (sel (isK ns 3) ns.length) ≤ 10 := by
 unfold checkE at h
 split at h
 · omega
 · split at h
   · omega
   · split at h
     · omega
     · omega
def EnvE (ns : List Nd) (ins sts : List Int) (bs : List Bool) (vs : List Int) : Prop :=
 bs = bitsN ns (sel (isK ns 2) ns.length) ins (sel (isK ns 2) ns.length).length ++ bitsN ns (sel (isK ns 3) ns.length) sts (sel (isK ns 3) ns.length).length ∧ vs = vals ns sts ins ns.length
theorem env_ok {ns : List Nd} (hn : firstN (nodeAtE ns) ns.length = 0) (ins sts : List Int) : Gg.EnvOk (EnvE ns ins sts) ns (Gg.inT ns (Gg.inL ns).length) := by
 refine ⟨fun bs vs ⟨h1, _⟩ => ?_, fun bs vs ⟨_, h2⟩ k hk k2 k3 => ?_⟩
 · rw [h1, List.length_append, bitsN_len _ _ _ _ (Nat.le_refl _), bitsN_len _ _ _ _ (Nat.le_refl _), Gg.inL_length, inT_three]
 · rw [h2, vals_at ns sts ins hk]
   have hnode := firstN_zero.1 hn k hk
   rw [nodeAtE_at hk] at hnode
   obtain ⟨hw, hkd, _, h4, hlf⟩ := node_zero hnode
   unfold valAt
   rw [List.getElem?_eq_getElem hk]
   simp only
   by_cases k1 : ns[k].kind = 1
   · rw [if_pos k1, if_pos k1]
   · rw [if_neg k1, if_neg k1, if_neg k2, if_neg k3]
     obtain ⟨i0, i1, i2, _, _⟩ := opE_in (h4 (by omega))
     have e : ∀ (i y : Int), (i < takes ns[k].kind → 0 ≤ y ∧ y < k) → opv (vals ns sts ins k) (takes ns[k].kind) i y = opv (vals ns sts ins ns.length) (takes ns[k].kind) i y := fun i y hy => by
       unfold opv
       by_cases hi : i < takes ns[k].kind
       · rw [if_pos hi, if_pos hi, vals_getD ns sts ins (show y.toNat < k by have := hy hi; omega) (Nat.le_of_lt hk)]
       · rw [if_neg hi, if_neg hi]
     rw [e 0 _ i0, e 1 _ i1, e 2 _ i2]
theorem env_in {ns : List Nd} (hW : Wok ns) {ins sts : List Int} (hi : wordsE ns 2 ins = 0) (hs : wordsE ns 3 sts = 0) : ∀ bs vs, EnvE ns ins sts bs vs → ∀ t, t < (Gg.inL ns).length → ((Gg.numB (fun j => bs.getD (Gg.inT ns t + j) false) (wdOf ns ((Gg.inL ns).getD t 0)).toNat : Nat) : Int) = vs.getD ((Gg.inL ns).getD t 0).toNat 0 := by
 rintro bs vs ⟨h1, h2⟩ t ht
 have hle := Gg.inL_length ns
 have hwn : ∀ i, i < ns.length → 1 ≤ wdOf ns (i : Nat) := fun i hi => by unfold wdOf; rw [Int.toNat_natCast, List.getElem?_eq_getElem hi]; exact (hW i hi).1
 by_cases h : t < (sel (isK ns 2) ns.length).length
 · rw [Gg.inL_two h]
   obtain ⟨i, hin, hf, he, ha⟩ := ahead_at h
   obtain ⟨hl, hk⟩ := words_zero hi
   obtain ⟨p1, p2⟩ := hk i hin hf
   unfold ahead at p1 p2
   rw [ha] at p1 p2
   obtain ⟨q1, q2⟩ := isW_iff.1 p2
   have hg : (sel (isK ns 2) ns.length).getD t 0 = i := by rw [Gg.getD_at h, he]
   rw [he, Int.toNat_natCast, h2, vals_at ns sts ins hin]
   have hv : valAt ns sts ins (vals ns sts ins i) i = ins.getD t 0 := by
     have k3 : ns[i].kind = 2 := by rw [isK_at hin] at hf; simpa using hf
     unfold valAt
     rw [List.getElem?_eq_getElem hin]
     simp only
     rw [if_neg (by omega), if_pos k3]
     unfold ahead
     rw [ha]
   have h3 := hwn i hin
   have hwe : (((wdOf ns (i : Int)).toNat : Nat) : Int) = wdOf ns (i : Int) := by omega
   rw [hv, Gg.numB_congr (g := fun j => (bitsB (ins.getD t 0) (wdOf ns (i : Int)).toNat).getD j false), bitsB_num q1 (by rw [hwe]; exact q2)]
   · omega
   · intro j hj
     have := bitsN_get ns (sel (isK ns 2) ns.length) ins (t := t) (j := j) (by rw [hg]; exact hj) (bitsN ns (sel (isK ns 3) ns.length) sts (sel (isK ns 3) ns.length).length) (sel (isK ns 2) ns.length).length h
     rw [hg, bitsN_len _ _ _ _ (by omega)] at this
     rw [h1, inT_two (by omega)]
     exact this
 · obtain ⟨u, rfl⟩ : ∃ u, t = (sel (isK ns 2) ns.length).length + u := ⟨t - (sel (isK ns 2) ns.length).length, by omega⟩
   have hu : u < (sel (isK ns 3) ns.length).length := by omega
   rw [Gg.inL_three hu]
   obtain ⟨i, hin, hf, he, ha⟩ := ahead_at hu
   obtain ⟨hl, hk⟩ := words_zero hs
   obtain ⟨p1, p2⟩ := hk i hin hf
   unfold ahead at p1 p2
   rw [ha] at p1 p2
   obtain ⟨q1, q2⟩ := isW_iff.1 p2
   have hg : (sel (isK ns 3) ns.length).getD u 0 = i := by rw [Gg.getD_at hu, he]
   rw [he, Int.toNat_natCast, h2, vals_at ns sts ins hin]
   have hv : valAt ns sts ins (vals ns sts ins i) i = sts.getD u 0 := by
     have k3 : ns[i].kind = 3 := by rw [isK_at hin] at hf; simpa using hf
     unfold valAt
     rw [List.getElem?_eq_getElem hin]
     simp only
     rw [if_neg (by omega), if_neg (by omega), if_pos k3]
     unfold ahead
     rw [ha]
   have h3 := hwn i hin
   have hwe : (((wdOf ns (i : Int)).toNat : Nat) : Int) = wdOf ns (i : Int) := by omega
   rw [hv, Gg.numB_congr (g := fun j => (bitsB (sts.getD u 0) (wdOf ns (i : Int)).toNat).getD j false), bitsB_num q1 (by rw [hwe]; exact q2)]
   · omega
   · intro j hj
     have := bitsN_get ns (sel (isK ns 3) ns.length) sts (t := u) (j := j) (by rw [hg]; exact hj) [] (sel (isK ns 3) ns.length).length hu
     rw [hg, bitsN_len _ _ _ _ (by omega), List.append_nil] at this
     rw [h1, inT_three, List.getD, List.getElem?_append_right (by rw [bitsN_len _ _ _ _ (Nat.le_refl _)]; omega), bitsN_len _ _ _ _ (Nat.le_refl _), Nat.add_assoc, Nat.add_sub_cancel_left]
     exact this
end Go.Proofs.YtabnimgpednhjabGreat

namespace Go.Proofs.YtabnimgpednhjabGreat
open Go.RowKit Go.Maps
set_option maxRecDepth 100000
theorem sems_bits {qs : Gg.Gr} {bs : List Bool} {l : List Int} {x : Int} (h : ((Gg.numW qs bs l : Nat) : Int) = x) : l.map (Gg.sem qs bs) = bitsB x l.length := by
 refine List.ext_getElem (by simp [bitsB]) (fun i h1 h2 => ?_)
 have hi : i < l.length := by simpa using h1
 have e := Gg.numW_bit (ps := qs) (bs := bs) (l := l) rfl hi
 rw [Gg.getD_at hi] at e
 have e2 : (bitsB x l.length)[i] = (x / two (i : Int) % 2 == 1) := by simp [bitsB]
 rw [List.getElem_map, e, e2, bit_test (by omega), ← h, Int.toNat_natCast]
theorem tf_bits {E : List Bool → List Int → Prop} {ns : List Nd} {n : Nat} {qs : Gg.Gr} {nums F : List Int} {bs : List Bool} {vs : List Int} (h : Gg.TF E ns n qs nums F) (hb : E bs vs) {S l : List Int} (hl : nums.length = S.length)
   (hw : ∀ k, k < S.length → 0 ≤ nums.getD k 0 ∧ wdOf ns (nums.getD k 0) = wdOf ns (S.getD k 0) ∧ l.getD k 0 = vs.getD (nums.getD k 0).toNat 0) : F.map (Gg.sem qs bs) = bitsN ns S l S.length ∧ ∀ x ∈ F, Gg.Val n qs x := by
 obtain ⟨LS, rfl, hL, ht⟩ := h
 refine ⟨?_, fun x hx => ?_⟩
 · have key : ∀ k, k ≤ LS.length → (LS.take k).flatten.map (Gg.sem qs bs) = bitsN ns S l k := by
     intro k
     induction k with
     | zero => intro _; rfl
     | succ k ih =>
       intro hk
       have hk' : k < LS.length := hk
       obtain ⟨_, h1, h2⟩ := ht k hk'
       have h2 := h2 bs vs hb
       obtain ⟨p0, p1, p2⟩ := hw k (by omega)
       rw [show (((nums.getD k 0).toNat : Nat) : Int) = nums.getD k 0 by omega] at h1
       have hlen : LS[k].length = (wdOf ns (S.getD k 0)).toNat := by rw [← p1]; omega
       rw [List.take_succ_eq_append_getElem hk', List.flatten_append, List.map_append, ih (by omega), bitsN, List.flatten_cons, List.flatten_nil, List.append_nil, sems_bits h2, p2, hlen]
   have := key LS.length (Nat.le_refl _)
   rwa [List.take_length, hL, hl] at this
 · obtain ⟨l', hl', hx'⟩ := List.mem_flatten.1 hx
   obtain ⟨i, hi, rfl⟩ := List.getElem_of_mem hl'
   exact (ht i hi).1 x hx'
theorem foldl_any {l : List (Int × Int)} {x : Int} (h : hasSt x l = true) : ∀ a b : Int, l.foldl (fun a p => if p.1 = x then p.2 else a) a = l.foldl (fun a p => if p.1 = x then p.2 else a) b := by
 induction l with
 | nil => simp [hasSt] at h
 | cons p l ih =>
   intro a b
   simp only [List.foldl_cons]
   by_cases hp : p.1 = x
   · simp [hp]
   · simp only [hp, if_false]
     refine ih ?_ a b
     simpa [hasSt, hp] using h
theorem lastV_pair {l : List (Int × Int)} {x : Int} (hd : dup (fsts l) = false) (hs : hasSt x l = true) : lastV l x = pairOf x l := by
 rw [← from_pair hd hs]
 unfold lastV fromOf
 rw [foldl_any hs 0 x]
 congr 1
 funext a p
 simp
theorem pairOf_mem {s : Int} {l : List (Int × Int)} (h : hasSt s l = true) : ∃ p ∈ l, p.1 = s ∧ pairOf s l = p.2 := by
 unfold pairOf
 cases hf : l.find? (fun p => p.1 == s) with
 | some p => exact ⟨p, List.mem_of_find?_eq_some hf, by simpa using List.find?_some hf, rfl⟩
 | none =>
   exfalso
   obtain ⟨p, hp, hps⟩ := List.any_eq_true.1 h
   exact List.find?_eq_none.1 hf p hp hps
theorem pairOf_none {s : Int} {l : List (Int × Int)} (h : hasSt s l = false) : pairOf s l = -1 := by
 unfold pairOf
 cases hf : l.find? (fun p => p.1 == s) with
 | some p =>
   have := List.any_eq_false.1 h p (List.mem_of_find?_eq_some hf)
   exact absurd (List.find?_some hf) this
 | none => rfl
theorem has_contains (s : Int) (l : List (Int × Int)) : (fsts l).contains s = hasSt s l := by
 unfold fsts hasSt
 induction l with
 | nil => rfl
 | cons p l ih =>
   simp only [List.map_cons, List.contains_cons, List.any_cons, ih]
   by_cases h : s = p.1
   · subst h; simp
   · rw [beq_eq_false_iff_ne.2 h, beq_eq_false_iff_ne.2 (fun e => h e.symm)]
theorem nexts_in {ns : List Nd} {is xs : List (Int × Int)} {bs hs : List Int} (h : checkE ns is xs bs hs = 0) : ∀ x ∈ (sel (isK ns 3) ns.length).map (lastV xs), 0 ≤ x ∧ x < ns.length := by
 obtain ⟨_, _, hp, hm⟩ := check_zero h
 obtain ⟨_, _, _, hd⟩ := pairs_zero hp
 intro x hx
 obtain ⟨s, hs, rfl⟩ := List.mem_map.1 hx
 rw [lastV_pair hd (marks_has hm s hs)]
 exact next_in h s hs
theorem nexts_bits {E : List Bool → List Int → Prop} {ns : List Nd} {is xs : List (Int × Int)} {bs hs : List Int} (h : checkE ns is xs bs hs = 0) {n : Nat} {qs : Gg.Gr} {F : List Int} {bb : List Bool} {vs : List Int} (hF : Gg.TF E ns n qs ((sel (isK ns 3) ns.length).map (lastV xs)) F) (hb : E bb vs) :
   F.map (Gg.sem qs bb) = bitsN ns (sel (isK ns 3) ns.length) (nextRL ns xs vs) (sel (isK ns 3) ns.length).length ∧ ∀ x ∈ F, Gg.Val n qs x := by
 obtain ⟨_, _, hp, hm⟩ := check_zero h
 obtain ⟨_, hpx, _, hd⟩ := pairs_zero hp
 refine tf_bits hF hb (by simp) (fun k hk => ?_)
 have hmem := List.getElem_mem hk
 have hh := marks_has hm _ hmem
 have e1 : ((sel (isK ns 3) ns.length).map (lastV xs)).getD k 0 = pairOf ((sel (isK ns 3) ns.length)[k]) xs := by
   rw [Gg.getD_at (by simpa using hk), List.getElem_map, lastV_pair hd hh]
 have e2 : (nextRL ns xs vs).getD k 0 = vs.getD (pairOf ((sel (isK ns 3) ns.length)[k]) xs).toNat 0 := by
   unfold nextRL
   rw [Gg.getD_at (by simpa using hk), List.getElem_map]
 obtain ⟨p, hp1, hp2, hp3⟩ := pairOf_mem hh
 have hw := (pairE_zero (hpx p hp1)).2.2.2
 rw [e1, e2, Gg.getD_at hk]
 refine ⟨(next_in h _ hmem).1, ?_, rfl⟩
 rw [hp3, ← hw, hp2]
theorem bitsN_ones {ns : List Nd} {S l : List Int} (hw : ∀ k, k < S.length → wdOf ns (S.getD k 0) = 1 ∧ 0 ≤ l.getD k 0 ∧ l.getD k 0 < 2) : ∀ k, k ≤ S.length → bitsN ns S l k = (List.range k).map (fun i => l.getD i 0 == 1) := by
 intro k
 induction k with
 | zero => intro _; rfl
 | succ k ih =>
   intro hk
   obtain ⟨h1, h2, h3⟩ := hw k (by omega)
   rw [bitsN, ih (by omega), List.range_succ, List.map_append, h1]
   congr 1
   show bitsB (l.getD k 0) 1 = [l.getD k 0 == 1]
   unfold bitsB
   rw [show List.range 1 = [0] from rfl]
   simp only [List.map_cons, List.map_nil]
   rw [show two ((0 : Nat) : Int) = 1 from rfl, Int.ediv_one, Int.emod_eq_of_lt h2 h3]
theorem marks_bits {E : List Bool → List Int → Prop} {ns : List Nd} {n : Nat} {qs : Gg.Gr} {nums F : List Int} {bb : List Bool} {vs : List Int} (hF : Gg.TF E ns n qs nums F) (hb : E bb vs) (hw : ∀ x ∈ nums, 0 ≤ x ∧ wdOf ns x = 1 ∧ 0 ≤ vs.getD x.toNat 0 ∧ vs.getD x.toNat 0 < 2) :
   F.map (Gg.sem qs bb) = nums.map (fun x => vs.getD x.toNat 0 == 1) ∧ ∀ x ∈ F, Gg.Val n qs x := by
 have e : ∀ k, k < nums.length → (nums.map (fun x => vs.getD x.toNat 0)).getD k 0 = vs.getD (nums.getD k 0).toNat 0 := fun k hk => by
   rw [Gg.getD_at (by simpa using hk), List.getElem_map, Gg.getD_at hk]
 have hg : ∀ k, k < nums.length → nums.getD k 0 ∈ nums := fun k hk => by rw [Gg.getD_at hk]; exact List.getElem_mem hk
 obtain ⟨h1, h2⟩ := tf_bits hF hb (S := nums) (l := nums.map (fun x => vs.getD x.toNat 0)) rfl (fun k hk => ⟨(hw _ (hg k hk)).1, rfl, e k hk⟩)
 refine ⟨?_, h2⟩
 rw [h1, bitsN_ones (fun k hk => ⟨(hw _ (hg k hk)).2.1, by rw [e k hk]; exact (hw _ (hg k hk)).2.2⟩) _ (Nat.le_refl _)]
 refine List.ext_getElem (by simp) (fun i h1 h2 => ?_)
 have hi : i < nums.length := by simpa using h1
 simp only [List.getElem_map, List.getElem_range]
 rw [e i hi, Gg.getD_at hi]
theorem iniL_len (ns : List Nd) (is : List (Int × Int)) : ∀ k, k ≤ (sel (isK ns 3) ns.length).length → (iniL ns is k).length = lenW ns (sel (isK ns 3) ns.length) k := by
 intro k
 induction k with
 | zero => intro _; rfl
 | succ k ih =>
   intro h
   rw [iniL, List.length_append, iniB_len, ih (by omega), lenW_succ (by omega)]
theorem iniL_get (ns : List Nd) (is : List (Int × Int)) {t j : Nat} (hj : j < (wdOf ns ((sel (isK ns 3) ns.length).getD t 0)).toNat) (R : List Int) : ∀ n, t < n → (iniL ns is n ++ R).getD ((iniL ns is t).length + j) 0 = (iniB ns is t).getD j 0 := by
 intro n
 induction n generalizing R with
 | zero => intro h; omega
 | succ n ih =>
   intro h
   rw [iniL, List.append_assoc]
   rcases Nat.lt_succ_iff_lt_or_eq.1 h with h1 | rfl
   · exact ih _ h1
   · rw [List.getD, List.getElem?_append_right (by omega), Nat.add_sub_cancel_left, List.getElem?_append_left (by rw [iniB_len]; exact hj)]
     rfl
theorem ini_fact {ns : List Nd} {is xs : List (Int × Int)} {bs hs : List Int} (h : checkE ns is xs bs hs = 0) (wish : List Int) (qs : Gg.Gr) (bb : List Bool) {i j : Nat} (hi : i < (sel (isK ns 3) ns.length).length) (hj : j < (wdOf ns ((sel (isK ns 3) ns.length)[i])).toNat) :
   (pairOf ((sel (isK ns 3) ns.length)[i]) is < 0 → (iniL ns is (sel (isK ns 3) ns.length).length).getD (lenW ns (sel (isK ns 3) ns.length) i + j) 0 = -1) ∧
   (0 ≤ pairOf ((sel (isK ns 3) ns.length)[i]) is → ((iniL ns is (sel (isK ns 3) ns.length).length).getD (lenW ns (sel (isK ns 3) ns.length) i + j) 0 = 0 ∨ (iniL ns is (sel (isK ns 3) ns.length).length).getD (lenW ns (sel (isK ns 3) ns.length) i + j) 0 = 1) ∧
     Gg.sem qs bb ((iniL ns is (sel (isK ns 3) ns.length).length).getD (lenW ns (sel (isK ns 3) ns.length) i + j) 0) = (bitsN ns (sel (isK ns 3) ns.length) (beginRL ns is wish (vals ns (zeroS ns) (zeroI ns) ns.length)) (sel (isK ns 3) ns.length).length).getD (lenW ns (sel (isK ns 3) ns.length) i + j) false) := by
 obtain ⟨_, hn, hp, _⟩ := check_zero h
 obtain ⟨hpi, _, hd, _⟩ := pairs_zero hp
 have hg : (sel (isK ns 3) ns.length).getD i 0 = (sel (isK ns 3) ns.length)[i] := Gg.getD_at hi
 have e0 : (iniL ns is (sel (isK ns 3) ns.length).length).getD (lenW ns (sel (isK ns 3) ns.length) i + j) 0 = (iniB ns is i).getD j 0 := by
   have := iniL_get ns is (t := i) (j := j) (by rw [hg]; exact hj) [] _ hi
   rwa [List.append_nil, iniL_len _ _ _ (by omega)] at this
 have e1 := bitsN_get ns (sel (isK ns 3) ns.length) (beginRL ns is wish (vals ns (zeroS ns) (zeroI ns) ns.length)) (t := i) (j := j) (by rw [hg]; exact hj) [] _ hi
 rw [List.append_nil, bitsN_len _ _ _ _ (by omega)] at e1
 rw [e0, e1]
 unfold iniB
 rw [hg, has_contains]
 cases hh : hasSt ((sel (isK ns 3) ns.length)[i]) is with
 | false =>
   have := pairOf_none hh
   refine ⟨fun _ => ?_, fun h => by omega⟩
   simp only [Bool.false_eq_true, if_false]
   rw [Gg.getD_at (by simpa using hj), List.getElem_replicate]
 | true =>
   obtain ⟨p, hp1, hp2, hp3⟩ := pairOf_mem hh
   have h0 : 0 ≤ p.2 := (pairE_zero (init_zero (hpi p hp1))).2.1.1
   refine ⟨fun h => by omega, fun _ => ?_⟩
   simp only [if_true]
   have hb0 : (beg0 ns is).getD i 0 = (beginRL ns is wish (vals ns (zeroS ns) (zeroI ns) ns.length)).getD i 0 := by
     unfold beg0 beginI
     rw [if_pos rfl, begin_same h]
     unfold beginRL
     rw [Gg.getD_at (by simpa using hi), Gg.getD_at (by simpa using hi), List.getElem_map, List.getElem_map, List.getElem_range, hg, hp3, if_pos h0, if_pos h0]
   have hbd : 0 ≤ (beg0 ns is).getD i 0 := by
     have hl : i < (beg0 ns is).length := by rw [beg0_len]; exact hi
     rw [Gg.getD_at hl]
     exact (beg0_bd h _ (List.getElem_mem hl)).1
   rw [← hb0]
   generalize (beg0 ns is).getD i 0 = x at *
   rw [bitsB_getD (by simpa using hj), Gg.getD_at (by simpa [Gg.bitsC] using hj)]
   have e2 : (Gg.bitsC x (wdOf ns ((sel (isK ns 3) ns.length)[i])).toNat)[j]'(by simpa [Gg.bitsC] using hj) = x / 2 ^ j % 2 := by simp [Gg.bitsC]
   rw [e2]
   have e3 : x / two (j : Int) = x / 2 ^ j := by unfold two; rw [Int.toNat_natCast]
   rw [e3]
   have h01 : x / 2 ^ j % 2 = 0 ∨ x / 2 ^ j % 2 = 1 := by omega
   rcases h01 with e | e
   · rw [e]; exact ⟨Or.inl rfl, by rw [Gg.sem_no]; rfl⟩
   · rw [e]; exact ⟨Or.inr rfl, by rw [Gg.sem_yes]; rfl⟩
theorem ini_lits {ns : List Nd} {is : List (Int × Int)} : ∀ k, ∀ y ∈ iniL ns is k, y = -1 ∨ y = 0 ∨ y = 1 := by
 intro k
 induction k with
 | zero => intro y hy; simp [iniL] at hy
 | succ k ih =>
   intro y hy
   rw [iniL] at hy
   rcases List.mem_append.1 hy with hy | hy
   · exact ih y hy
   · unfold iniB at hy
     split at hy
     · obtain ⟨i, _, rfl⟩ := List.mem_map.1 hy
       omega
     · exact Or.inl (List.eq_of_mem_replicate hy)
theorem no_lit {n : Nat} {qs : Gg.Gr} {F : List Int} (h : ∀ x ∈ F, Gg.Val n qs x) : F.any (Gg.noLit (2 * (1 + (n : Int) + qs.length))) = false := by
 refine List.any_eq_false.2 (fun x hx => ?_)
 obtain ⟨h1, h2⟩ := h x hx
 unfold Gg.noLit
 simp
 omega
theorem cir_ok {ns : List Nd} (hW : Wok ns) {is : List (Int × Int)} {qs : Gg.Gr} {NL BL HL : List Int} (hok : Gg.chkE (Gg.inT ns (Gg.inL ns).length : Nat) qs = 0) (hNl : NL.length = lenW ns (sel (isK ns 3) ns.length) (sel (isK ns 3) ns.length).length) (hN : ∀ x ∈ NL, Gg.Val (Gg.inT ns (Gg.inL ns).length) qs x) (hB : ∀ x ∈ BL, Gg.Val (Gg.inT ns (Gg.inL ns).length) qs x) (hH : ∀ x ∈ HL, Gg.Val (Gg.inT ns (Gg.inL ns).length) qs x) :
   Gg.cirE (Gg.inT ns (Gg.inL ns).length : Nat) qs (sumW ns (sel (isK ns 2) ns.length)) (sumW ns (sel (isK ns 3) ns.length)) (iniL ns is (sel (isK ns 3) ns.length).length) NL BL HL = 0 := by
 have h2 := lenW_sum hW (S := sel (isK ns 2) ns.length) sel_in2
 have h3 := lenW_sum hW (S := sel (isK ns 3) ns.length) sel_in2
 have hT := inT_sum hW
 have hI := iniL_len ns is _ (Nat.le_refl _)
 unfold Gg.cirE
 rw [if_neg (by simp [hok]), if_neg (by omega), if_neg (by rw [hI, hNl]; omega), if_neg]
 rw [no_lit hN, no_lit hB, no_lit hH]
 simp only [Bool.or_false, Bool.not_eq_true]
 refine List.any_eq_false.2 (fun y hy => ?_)
 unfold Gg.badI Gg.noLit
 rcases ini_lits _ y hy with rfl | rfl | rfl
 · simp
 · simp; omega
 · simp; omega
end Go.Proofs.YtabnimgpednhjabGreat

namespace Go.Proofs.YtabnimgpednhjabGreat
open Go.RowKit Go.Maps
set_option maxRecDepth 100000
set_option maxHeartbeats 4000000 in
theorem blastE_any (a0 a1 a2 a3 a4 : Option Addr) (c0 c1 c2 c3 c4 : Nat) (ns : List Nd) (is xs : List (Int × Int)) (bs hs : List Int) (hck : checkE ns is xs bs hs ≠ 0) (hln : ns.length ≤ maxLen) (hli : is.length ≤ 8796093022208) (hlx : xs.length ≤ 8796093022208) (hlb : bs.length ≤ maxLen) (hlh : hs.length ≤ maxLen) (w : World)
   (hN : NodesAt w a0 ns) (hI : PairsAt w a1 is) (hX : PairsAt w a2 xs) (hBs : IntsAt w a3 bs) (hHs : IntsAt w a4 hs) :
   Calls Tryz.prog 8 #[Mv.val ⟨a0, c0, a1, is.length, c1, a2, xs.length, c2, a3, bs.length, c3, a4, hs.length, c4⟩ ns.length] w fun e w' =>
     e = .returned (.tuple #[Gg.circ 0 none 0 0 0 0 ⟨none, [], 0⟩ ⟨none, [], 0⟩ ⟨none, [], 0⟩ ⟨none, [], 0⟩, .int .i64 (checkE ns is xs bs hs)]) ∧ Below w.heap.size w w' := by
 have HCK := hide (fun (w' : World) (hb : Below w.heap.size w w') => check_any a0 a1 a2 a3 a4 c0 c1 c2 c3 c4 ns is xs bs hs hln hli hlx hlb hlh w' (hN.later hb) (hI.later hb) (hX.later hb) (hBs.later hb) (hHs.later hb))
 have hB0 : Below w.heap.size w ((w.alloc (.cells (Mv.cells ⟨a0, c0, a1, is.length, c1, a2, xs.length, c2, a3, bs.length, c3, a4, hs.length, c4⟩ ns.length) 35)).alloc newC) := bal (bal (Below.refl _ _) _) _
 clear hN hI hX hBs hHs
 generalize checkE ns is xs bs hs = E at *
 go_enter Tryz.func8, Tryz.ntmps8
 go_wp2_with fail
 refine (HCK.out _ hB0).mono ?_
 rintro e w1 ⟨rfl, hb1⟩
 have HR1 := hide (ResS.later (h := w.heap.size + 1) (by simpa using res_new (w.alloc (.cells (Mv.cells ⟨a0, c0, a1, is.length, c1, a2, xs.length, c2, a3, bs.length, c3, a4, hs.length, c4⟩ ns.length) 35))) hb1)
 have HB1 := hide (bthen hB0 hb1)
 obtain ⟨z0, z1, z2, z3, z4, z5, z6, z7, zf⟩ := HR1.out
 clear hb1 hB0 HCK
 go_wp2_with fail
 have hh : w.heap.size ≤ w.heap.size + 1 := by omega
 have HBL := hide ((((((((HB1.out.setCell (p := ⟨w.heap.size + 1, 0, none⟩) hh (.int .i64 0)).setCell (p := ⟨w.heap.size + 1, 1, none⟩) hh (.slice none 0 0)).setCell (p := ⟨w.heap.size + 1, 2, none⟩) hh (.int .i64 0)).setCell (p := ⟨w.heap.size + 1, 3, none⟩) hh (.int .i64 0)).setCell (p := ⟨w.heap.size + 1, 4, none⟩) hh (.slice none 0 0)).setCell (p := ⟨w.heap.size + 1, 5, none⟩) hh (.slice none 0 0)).setCell (p := ⟨w.heap.size + 1, 6, none⟩) hh (.slice none 0 0)).setCell (p := ⟨w.heap.size + 1, 7, none⟩) hh (.slice none 0 0))
 exact bodyPost_ret (v := .tuple #[Gg.circ 0 none 0 0 0 0 ⟨none, [], 0⟩ ⟨none, [], 0⟩ ⟨none, [], 0⟩ ⟨none, [], 0⟩, .int .i64 E]) (by simp [results, Tryz.results8, go_sem, z0, z1, z2, z3, z4, z5, z6, z7]) rfl ⟨rfl, HBL.out⟩
set_option maxHeartbeats 4000000 in
theorem tellsE_walk (hbg : ∀ w, Calls Tryz.prog 5 #[] w fun e w' => e = .returned (.bool true) ∧ Below w.heap.size w w') (a0 a1 a2 a3 a4 : Option Addr) (c0 c1 c2 c3 c4 : Nat) (ns : List Nd) (is xs : List (Int × Int)) (bs hs : List Int) (hck : checkE ns is xs bs hs ≠ 0) (hln : ns.length ≤ 2932031007402) (hli : is.length ≤ 8796093022208) (hlx : xs.length ≤ 8796093022208) (hlb : bs.length ≤ maxLen) (hlh : hs.length ≤ maxLen) (hn3 : a3 = none → c3 = 0) (hn4 : a4 = none → c4 = 0) (st ip : Int) (w : World)
   (hN : NodesAt w a0 ns) (hI : PairsAt w a1 is) (hX : PairsAt w a2 xs) (hBs : IntsAt w a3 bs) (hHs : IntsAt w a4 hs) :
   Calls Tryz.prog 4 #[Mv.val ⟨a0, c0, a1, is.length, c1, a2, xs.length, c2, a3, bs.length, c3, a4, hs.length, c4⟩ ns.length, .int .i64 st, .int .i64 ip] w fun e w' => e = .returned (.bool true) ∧ Below w.heap.size w w' := by
 have hln' : ns.length ≤ maxLen := by unfold maxLen; omega
 have HBL := hide (fun (w' : World) (hb : Below w.heap.size w w') => blastE_any a0 a1 a2 a3 a4 c0 c1 c2 c3 c4 ns is xs bs hs hck hln' hli hlx hlb hlh w' (hN.later hb) (hI.later hb) (hX.later hb) (hBs.later hb) (hHs.later hb))
 have HCR := hide (fun (w' : World) (hb : Below w.heap.size w w') => checkModelR_any a0 a1 a2 a3 a4 c0 c1 c2 c3 c4 ns is xs bs hs hln' hli hlx hlb hlh hn3 hn4 w' (hN.later hb) (hI.later hb) (hX.later hb) (hBs.later hb) (hHs.later hb))
 clear hN hI hX hBs hHs
 generalize checkE ns is xs bs hs = E at *
 go_enter Tryz.func4, Tryz.ntmps4
 go_wp2_with fail
 have hB0 : Below w.heap.size w (w.alloc (.cells (Mv.cells ⟨a0, c0, a1, is.length, c1, a2, xs.length, c2, a3, bs.length, c3, a4, hs.length, c4⟩ ns.length) 35)) := bal (Below.refl _ _) _
 have HBx := hide (Box.new w ⟨a0, c0, a1, is.length, c1, a2, xs.length, c2, a3, bs.length, c3, a4, hs.length, c4⟩ ns.length)
 refine (HBL.out _ hB0).mono ?_
 rintro e w1 ⟨rfl, hb1⟩
 have HB1 := hide (bthen hB0 hb1)
 have HX1 := hide (HBx.out.later hb1)
 obtain ⟨q0, q1, q2, q3, q4⟩ := id HX1.out
 simp only at q0 q1 q2 q3 q4
 have hs1 : w.heap.size < w1.heap.size := World.block_lt_of_cell? _ _ q0
 have hne1 : ¬ w.heap.size = w1.heap.size := by omega
 have hne2 : ¬ w1.heap.size = w.heap.size := by omega
 clear hb1 hB0 HBx HBL
 go_wp2_with fail
 refine (HCR.out _ (by first | exact HB1.out | exact bal HB1.out _)).mono ?_
 rintro e w2 ⟨rfl, hb2⟩
 have HB2 := hide (bthen (bal HB1.out _) hb2)
 have HZ : Hid (w2.cell? ⟨w1.heap.size, 0, none⟩ = some (.int .i64 0) ∧ w2.cell? ⟨w1.heap.size, 1, none⟩ = some (.slice none 0 0) ∧ w2.cell? ⟨w1.heap.size, 2, none⟩ = some (.int .i64 0) ∧ w2.cell? ⟨w1.heap.size, 3, none⟩ = some (.int .i64 0) ∧ w2.cell? ⟨w1.heap.size, 4, none⟩ = some (.slice none 0 0) ∧ w2.cell? ⟨w1.heap.size, 5, none⟩ = some (.slice none 0 0) ∧ w2.cell? ⟨w1.heap.size, 6, none⟩ = some (.slice none 0 0) ∧ w2.cell? ⟨w1.heap.size, 7, none⟩ = some (.slice none 0 0)) :=
   ⟨cell_later hb2 (by simp [go_sem]), cell_later hb2 (by simp [go_sem]), cell_later hb2 (by simp [go_sem]), cell_later hb2 (by simp [go_sem]), cell_later hb2 (by simp [go_sem]), cell_later hb2 (by simp [go_sem]), cell_later hb2 (by simp [go_sem]), cell_later hb2 (by simp [go_sem])⟩
 clear hb2 HCR HB1 HX1 q0 q1 q2 q3 q4
 go_wp2_with fail
 refine (hbg _).mono ?_
 rintro e w3 ⟨rfl, hb3⟩
 have HB3 := hide (bthen HB2.out hb3)
 obtain ⟨z0, z1, z2, z3, z4, z5, z6, z7⟩ := HZ.out
 have y0 := cell_later hb3 z0
 have y1 := cell_later hb3 z1
 have y2 := cell_later hb3 z2
 have y3 := cell_later hb3 z3
 have y4 := cell_later hb3 z4
 have y5 := cell_later hb3 z5
 have y6 := cell_later hb3 z6
 have y7 := cell_later hb3 z7
 have HSG : Hid (∀ w' : World, Calls Tryz.prog 10 #[.agg #[.int .i64 0, .slice none 0 0], .agg #[.int .i64 0, .slice none 0 0]] w' fun r w'' => r = .returned (.bool true) ∧ Below w'.heap.size w' w'') := fun w' => Gg.sameGraph_any 0 0 [] [] (fun i h => by simp at h) (fun i h => by simp at h) none none 0 0 (by simp) w' (fun h => by simp at h) (fun h => by simp at h)
 clear hb3 HB2 HZ z0 z1 z2 z3 z4 z5 z6 z7
 go_wp2_with fail
 refine (HSG.out _).mono ?_
 rintro e w4 ⟨rfl, hb4⟩
 have HB4 := hide (bthen HB3.out hb4)
 have x0 := cell_later hb4 y0
 have x1 := cell_later hb4 y1
 have x2 := cell_later hb4 y2
 have x3 := cell_later hb4 y3
 have x4 := cell_later hb4 y4
 have x5 := cell_later hb4 y5
 have x6 := cell_later hb4 y6
 have x7 := cell_later hb4 y7
 clear hb4 HB3 HSG y0 y1 y2 y3 y4 y5 y6 y7
 go_wp2_with fail
 go_ret
 exact ⟨rfl, HB4.out⟩
end Go.Proofs.YtabnimgpednhjabGreat

namespace Go.Proofs.YtabnimgpednhjabGreat.Gg
open Go.RowKit Go.Maps
set_option maxRecDepth 100000
theorem step_append_bools {ops : Array Oper} {o : Oper} {a : Act} {w : World} {K : Act → World → Prop} {Q : Exit → Act → World → Prop} {E : Prop}
   (hg : o.guard = none) (s x : Operand) (hop : o.op = Op.call { callee := Callee.builtin Builtin.append, args := #[s, x], argTypes := #[44, 44] })
   (base : Nat) (v : Value) (l0 : List Bool) (hs : a.eval s = v) (hown : w.ownsRow base 4 1 v l0.length (l0.map Value.bool)) (p : Option Addr) (c : Nat) (l : List Bool) (hx : a.eval x = .slice p l.length c) (hB : BoolsAt w p l) (hnil : p = none → c = 0)
   (hb : l0.length + l.length ≤ 1000) (hbase : base ≤ w.heap.size)
   (hK : ∀ v' w', w'.ownsRow base 4 1 v' (l0 ++ l).length ((l0 ++ l).map Value.bool) → w.grownBy w' v.ownBlock → K (a.put o.dst v') w') :
   if Region.wanted o (yielded ops a.tmps) = true then Oper.wp Tryz.prog o a w K Q else E := by
 obtain ⟨i0, hi, hz0, hz1, hz2⟩ := info_parts info4
 have hw : Region.wanted o (yielded ops a.tmps) = true := by simp [Region.wanted, hg]
 rw [if_pos hw]
 cases p with
 | none =>
   have h0 : l = [] := by
     cases l with
     | nil => rfl
     | cons a t => obtain ⟨b, off, h, _⟩ := hB (by simp); cases h
   subst h0
   obtain rfl := hnil rfl
   have hrun := run_append_owned_none (P := Tryz.prog) (w := w) base 44 o.type 4 i0 1 Tryz.underlying44 hi v l0.length _ hown
   unfold Oper.wp
   simp only [List.length_nil] at hx
   simp [execOp, hop, resolve, invoke, builtin, hs, hx, hrun, Result.andThen]
   exact hK v w (by simpa using hown) ⟨rfl, rfl, rfl, Nat.le_refl _, fun _ _ _ => rfl⟩
 | some ad =>
   refine wp_append_own w s x 44 hop base 4 i0 (.bool false) 1 1 Tryz.underlying44 hi hz0 hz1 hz2 rfl (by decide) v l0.length _ hs hown ad l.length c (l.map Value.bool) hx (by simp) (bools_cells hB) ?_ (by unfold maxLen; omega) (by omega) hbase (fun v' w' a b _ => hK v' w' (by simpa using a) b)
   intro u hu
   obtain ⟨x, _, rfl⟩ := List.mem_map.1 hu
   rfl
theorem owns_boolsN {w : World} {base : Nat} {v : Value} {l : List Bool} (h : w.ownsRow base 4 1 v l.length (l.map Value.bool)) : ∃ p cap, v = .slice p l.length cap ∧ BoolsAt w p l ∧ (p = none → cap = 0) := by
 have h' := h
 obtain ⟨p, cap, hv, hB⟩ := owns_bools h
 refine ⟨p, cap, hv, hB, fun hp => ?_⟩
 subst hp
 obtain ⟨h1, h2⟩ := h'
 rcases h2 with ⟨h3, _⟩ | ⟨g, cap', cur, h3, _⟩
 · rw [hv] at h3; injection h3
 · rw [hv] at h3; injection h3 with e1; cases e1
end Go.Proofs.YtabnimgpednhjabGreat.Gg
namespace Go.Proofs.YtabnimgpednhjabGreat
open Go.RowKit Go.Maps
set_option maxRecDepth 100000
structure Lk (w u : World) (m : Mv) (ns : List Nd) (is xs : List (Int × Int)) (bs hs : List Int) (cb n : Nat) (pv : Option Addr) (cv : Nat) (qs : Gg.Gr) (s2 s3 : Int) (i x b h : Gg.Sl) : Prop where
 bel : Below w.heap.size w u
 q0 : u.cell? ⟨w.heap.size, 0, none⟩ = some (.slice m.a0 ns.length m.c0)
 q1 : u.cell? ⟨w.heap.size, 1, none⟩ = some (.slice m.a1 is.length m.c1)
 q2 : u.cell? ⟨w.heap.size, 2, none⟩ = some (.slice m.a2 xs.length m.c2)
 q3 : u.cell? ⟨w.heap.size, 3, none⟩ = some (.slice m.a3 bs.length m.c3)
 q4 : u.cell? ⟨w.heap.size, 4, none⟩ = some (.slice m.a4 hs.length m.c4)
 k0 : u.cell? ⟨cb, 0, none⟩ = some (.int .i64 (n : Nat))
 k1 : u.cell? ⟨cb, 1, none⟩ = some (.slice pv qs.length cv)
 k2 : u.cell? ⟨cb, 2, none⟩ = some (.int .i64 s2)
 k3 : u.cell? ⟨cb, 3, none⟩ = some (.int .i64 s3)
 k4 : u.cell? ⟨cb, 4, none⟩ = some (.slice i.at' i.ns.length i.cap)
 k5 : u.cell? ⟨cb, 5, none⟩ = some (.slice x.at' x.ns.length x.cap)
 k6 : u.cell? ⟨cb, 6, none⟩ = some (.slice b.at' b.ns.length b.cap)
 k7 : u.cell? ⟨cb, 7, none⟩ = some (.slice h.at' h.ns.length h.cap)
 g : PairsAt u pv qs
 li : IntsAt u i.at' i.ns
 lx : IntsAt u x.at' x.ns
 lb : IntsAt u b.at' b.ns
 lh : IntsAt u h.at' h.ns
theorem Lk.later {w u u1 : World} {m : Mv} {ns : List Nd} {is xs : List (Int × Int)} {bs hs : List Int} {cb n : Nat} {pv : Option Addr} {cv : Nat} {qs : Gg.Gr} {s2 s3 : Int} {i x b h : Gg.Sl} (H : Lk w u m ns is xs bs hs cb n pv cv qs s2 s3 i x b h) (hb : Below u.heap.size u u1) : Lk w u1 m ns is xs bs hs cb n pv cv qs s2 s3 i x b h :=
 ⟨bthen H.bel hb, cell_later hb H.q0, cell_later hb H.q1, cell_later hb H.q2, cell_later hb H.q3, cell_later hb H.q4, cell_later hb H.k0, cell_later hb H.k1, cell_later hb H.k2, cell_later hb H.k3, cell_later hb H.k4, cell_later hb H.k5, cell_later hb H.k6, cell_later hb H.k7, H.g.later hb, H.li.later hb, H.lx.later hb, H.lb.later hb, H.lh.later hb⟩
theorem Lk.drew {w u : World} {m : Mv} {ns : List Nd} {is xs : List (Int × Int)} {bs hs : List Int} {cb n : Nat} {pv : Option Addr} {cv : Nat} {qs : Gg.Gr} {s2 s3 : Int} {i x b h : Gg.Sl} (H : Lk w u m ns is xs bs hs cb n pv cv qs s2 s3 i x b h) : Lk w u.drew m ns is xs bs hs cb n pv cv qs s2 s3 i x b h := H.later (Below.refl _ u).drew
theorem Lk.cs {w u : World} {m : Mv} {ns : List Nd} {is xs : List (Int × Int)} {bs hs : List Int} {cb n : Nat} {pv : Option Addr} {cv : Nat} {qs : Gg.Gr} {s2 s3 : Int} {i x b h : Gg.Sl} (H : Lk w u m ns is xs bs hs cb n pv cv qs s2 s3 i x b h) :
   u.cell? ⟨w.heap.size, 0, none⟩ = some (.slice m.a0 ns.length m.c0) ∧ u.cell? ⟨w.heap.size, 1, none⟩ = some (.slice m.a1 is.length m.c1) ∧ u.cell? ⟨w.heap.size, 2, none⟩ = some (.slice m.a2 xs.length m.c2) ∧ u.cell? ⟨w.heap.size, 3, none⟩ = some (.slice m.a3 bs.length m.c3) ∧ u.cell? ⟨w.heap.size, 4, none⟩ = some (.slice m.a4 hs.length m.c4) ∧
   u.cell? ⟨cb, 0, none⟩ = some (.int .i64 (n : Nat)) ∧ u.cell? ⟨cb, 1, none⟩ = some (.slice pv qs.length cv) ∧ u.cell? ⟨cb, 2, none⟩ = some (.int .i64 s2) ∧ u.cell? ⟨cb, 3, none⟩ = some (.int .i64 s3) := ⟨H.q0, H.q1, H.q2, H.q3, H.q4, H.k0, H.k1, H.k2, H.k3⟩
theorem Lk.ca {w u : World} {m : Mv} {ns : List Nd} {is xs : List (Int × Int)} {bs hs : List Int} {cb n : Nat} {pv : Option Addr} {cv : Nat} {qs : Gg.Gr} {s2 s3 : Int} {i x b h : Gg.Sl} (H : Lk w u m ns is xs bs hs cb n pv cv qs s2 s3 i x b h) :
   u.cell? ⟨w.heap.size, 0, none⟩ = some (.slice m.a0 ns.length m.c0) ∧ u.cell? ⟨w.heap.size, 1, none⟩ = some (.slice m.a1 is.length m.c1) ∧ u.cell? ⟨w.heap.size, 2, none⟩ = some (.slice m.a2 xs.length m.c2) ∧ u.cell? ⟨w.heap.size, 3, none⟩ = some (.slice m.a3 bs.length m.c3) ∧ u.cell? ⟨w.heap.size, 4, none⟩ = some (.slice m.a4 hs.length m.c4) ∧
   u.cell? ⟨cb, 0, none⟩ = some (.int .i64 (n : Nat)) ∧ u.cell? ⟨cb, 1, none⟩ = some (.slice pv qs.length cv) ∧ u.cell? ⟨cb, 2, none⟩ = some (.int .i64 s2) ∧ u.cell? ⟨cb, 3, none⟩ = some (.int .i64 s3) ∧ u.cell? ⟨cb, 4, none⟩ = some (.slice i.at' i.ns.length i.cap) ∧ u.cell? ⟨cb, 5, none⟩ = some (.slice x.at' x.ns.length x.cap) ∧ u.cell? ⟨cb, 6, none⟩ = some (.slice b.at' b.ns.length b.cap) ∧ u.cell? ⟨cb, 7, none⟩ = some (.slice h.at' h.ns.length h.cap) := ⟨H.q0, H.q1, H.q2, H.q3, H.q4, H.k0, H.k1, H.k2, H.k3, H.k4, H.k5, H.k6, H.k7⟩
theorem Lk.check {w u : World} {m : Mv} {ns : List Nd} {is xs : List (Int × Int)} {bs hs : List Int} {cb n : Nat} {pv : Option Addr} {cv : Nat} {qs : Gg.Gr} {s2 s3 : Int} {i x b h : Gg.Sl} (H : Lk w u m ns is xs bs hs cb n pv cv qs s2 s3 i x b h) (hwf : Gg.WfP qs) (hl : qs.length ≤ 1000000) (h2 : 0 ≤ s2 ∧ s2 ≤ 100) (h3 : 0 ≤ s3 ∧ s3 ≤ 100) (hc : Gg.cirE n qs s2 s3 i.ns x.ns b.ns h.ns = 0) (hil : i.ns.length ≤ 100) (hxl : x.ns.length ≤ 100) (hbl : b.ns.length ≤ 100) (hhl : h.ns.length ≤ 100) :
   Calls Tryz.prog 7 #[.agg #[.int .i64 (n : Nat), .slice pv qs.length cv, .int .i64 s2, .int .i64 s3, .slice i.at' i.ns.length i.cap, .slice x.at' x.ns.length x.cap, .slice b.at' b.ns.length b.cap, .slice h.at' h.ns.length h.cap]] u fun e w' => e = .returned (.int .i64 0) ∧ Below u.heap.size u w' := by
 have h1 := Gg.plainB_any (n : Nat) pv cv qs hwf (by omega) s2 s3 ⟨by omega, by omega⟩ ⟨by omega, by omega⟩ i x b h (by unfold maxLen; omega) (by unfold maxLen; omega) (by unfold maxLen; omega) (by unfold maxLen; omega) u ⟨H.g, H.li, H.lx, H.lb, H.lh⟩
 rw [hc] at h1
 exact h1
end Go.Proofs.YtabnimgpednhjabGreat

namespace Go.Proofs.YtabnimgpednhjabGreat
open Go.RowKit Go.Maps
set_option maxRecDepth 100000
structure Tfact (n : Nat) (qs : Gg.Gr) (s2 s3 : Int) (IL NL BL HL : List Int) (bb NXB BGB : List Bool) (bs hs V S3 : List Int) (is : List (Int × Int)) (wf : Int → Int) (lw : Nat → Nat) : Prop where
 cir : Gg.cirE n qs s2 s3 IL NL BL HL = 0
 wfp : Gg.WfP qs
 len : qs.length ≤ 1000000
 st : Gg.stN bb.length qs qs.length = true
 bbn : bb.length = n
 nl : (NL.length : Int) = s3
 nxl : NXB.length = NL.length
 nx : ∀ i (h : i < NL.length) (h2 : i < NXB.length), 0 ≤ NL[i] ∧ NL[i] < 2 * (1 + (n : Int) + qs.length) ∧ Gg.litV (Gg.nodesV bb qs qs.length) NL[i] = NXB[i]
 bl : BL.length = bs.length
 bx : ∀ i (h : i < BL.length) (h2 : i < bs.length), 0 ≤ BL[i] ∧ BL[i] < 2 * (1 + (n : Int) + qs.length) ∧ Gg.litV (Gg.nodesV bb qs qs.length) BL[i] = (V.getD bs[i].toNat 0 == 1) ∧ 0 ≤ bs[i] ∧ bs[i] < V.length
 hl : HL.length = hs.length
 hx : ∀ i (h : i < HL.length) (h2 : i < hs.length), 0 ≤ HL[i] ∧ HL[i] < 2 * (1 + (n : Int) + qs.length) ∧ Gg.litV (Gg.nodesV bb qs qs.length) HL[i] = (V.getD hs[i].toNat 0 == 1) ∧ 0 ≤ hs[i] ∧ hs[i] < V.length
 lw0 : lw 0 = 0
 lws : ∀ i (h : i < S3.length), lw (i + 1) = lw i + (wf S3[i]).toNat
 lwl : lw S3.length ≤ 16
 ini : ∀ i (h : i < S3.length) j, j < (wf S3[i]).toNat → ∃ (h1 : lw i + j < IL.length) (h2 : lw i + j < BGB.length), (pairOf S3[i] is < 0 ∧ IL[lw i + j] = -1) ∨ (0 ≤ pairOf S3[i] is ∧ (IL[lw i + j] = 0 ∨ IL[lw i + j] = 1) ∧ Gg.litV (Gg.nodesV bb qs qs.length) IL[lw i + j] = BGB[lw i + j])
theorem getD_bool {l : List Bool} {i : Nat} (h : i < l.length) : l.getD i false = l[i] := by rw [List.getD, List.getElem?_eq_getElem h]; rfl
theorem marks_ones {ns : List Nd} {xs : List (Int × Int)} {bs hs : List Int} (h : marksE ns xs bs hs = 0) : (∀ x ∈ bs, wdOf ns x = 1) ∧ (∀ x ∈ hs, wdOf ns x = 1) := by
 unfold marksE at h
 split at h
 · omega
 · split at h
   · omega
   · split at h
     · omega
     · rename_i h2
       simp only [Bool.or_eq_true, not_or, Bool.not_eq_true] at h2
       refine ⟨fun x hx => ?_, fun x hx => ?_⟩
       · have := List.any_eq_false.1 h2.1 x hx; simpa using this
       · have := List.any_eq_false.1 h2.2 x hx; simpa using this
theorem map_at {F : List Int} {f : Int → Bool} {R : List Bool} (h : F.map f = R) {i : Nat} (h1 : i < F.length) (h2 : i < R.length) : f F[i] = R[i] := by
 subst h
 simp
theorem chk_parts {n : Nat} {qs : Gg.Gr} (h : Gg.chkE n qs = 0) : qs.length ≤ 1000000 ∧ Gg.stN n qs qs.length = true := by
 unfold Gg.chkE at h
 split at h
 · omega
 · split at h
   · omega
   · split at h
     · omega
     · rename_i h1 h2
       exact ⟨by omega, by simpa using h2⟩
theorem tfact_of {ns : List Nd} {is xs : List (Int × Int)} {bs hs : List Int} (hck : checkE ns is xs bs hs = 0) {ins sts : List Int} (hi : wordsE ns 2 ins = 0) (hs' : wordsE ns 3 sts = 0) {qs : Gg.Gr} {NL BL HL : List Int}
   (hS : Said (EnvE ns ins sts) ns (Gg.inT ns (Gg.inL ns).length) qs ((sel (isK ns 3) ns.length).map (lastV xs)) bs hs NL BL HL) :
   Tfact (Gg.inT ns (Gg.inL ns).length) qs (sumW ns (sel (isK ns 2) ns.length)) (sumW ns (sel (isK ns 3) ns.length)) (iniL ns is (sel (isK ns 3) ns.length).length) NL BL HL
     (bitsN ns (sel (isK ns 2) ns.length) ins (sel (isK ns 2) ns.length).length ++ bitsN ns (sel (isK ns 3) ns.length) sts (sel (isK ns 3) ns.length).length)
     (bitsN ns (sel (isK ns 3) ns.length) (nextRL ns xs (vals ns sts ins ns.length)) (sel (isK ns 3) ns.length).length)
     (bitsN ns (sel (isK ns 3) ns.length) (beginRL ns is sts (vals ns (zeroS ns) (zeroI ns) ns.length)) (sel (isK ns 3) ns.length).length)
     bs hs (vals ns sts ins ns.length) (sel (isK ns 3) ns.length) is (wdOf ns) (lenW ns (sel (isK ns 3) ns.length)) := by
 obtain ⟨⟨hl80, hlb8, hlh8⟩, hnn, hpp, hmk⟩ := check_zero hck
 have hW := (nodes_ok hnn).1
 obtain ⟨hinB, hinH⟩ := marks_in hmk
 obtain ⟨h1B, h1H⟩ := marks_ones hmk
 have hEE : EnvE ns ins sts (bitsN ns (sel (isK ns 2) ns.length) ins (sel (isK ns 2) ns.length).length ++ bitsN ns (sel (isK ns 3) ns.length) sts (sel (isK ns 3) ns.length).length) (vals ns sts ins ns.length) := ⟨rfl, rfl⟩
 have hbl := (env_ok hnn ins sts).len _ _ hEE
 obtain ⟨n1, n2⟩ := nexts_bits hck hS.nl hEE
 have hv := vals_isW hnn hs' hi
 have hvl := vals_len ns sts ins ns.length
 have hone : ∀ x : Int, 0 ≤ x ∧ x < ns.length → wdOf ns x = 1 → 0 ≤ x ∧ wdOf ns x = 1 ∧ 0 ≤ (vals ns sts ins ns.length).getD x.toNat 0 ∧ (vals ns sts ins ns.length).getD x.toNat 0 < 2 := fun x hx h1 => by
   have hk : x.toNat < ns.length := by omega
   have := hv x.toNat hk
   rw [show ((x.toNat : Nat) : Int) = x by omega, h1] at this
   rw [vals_at ns sts ins hk]
   exact ⟨hx.1, h1, isW_iff.1 this⟩
 obtain ⟨b1, b2⟩ := marks_bits hS.bl hEE (fun x hx => hone x (hinB x hx) (h1B x hx))
 obtain ⟨d1, d2⟩ := marks_bits hS.hl hEE (fun x hx => hone x (hinH x hx) (h1H x hx))
 obtain ⟨hq, hst⟩ := chk_parts hS.ok
 have h3 := lenW_sum hW (S := sel (isK ns 3) ns.length) sel_in2
 have hNl : NL.length = lenW ns (sel (isK ns 3) ns.length) (sel (isK ns 3) ns.length).length := by
   have := congrArg List.length n1
   rw [List.length_map, bitsN_len _ _ _ _ (Nat.le_refl _)] at this
   exact this
 have hBl : BL.length = bs.length := by simpa using congrArg List.length b1
 have hHl : HL.length = hs.length := by simpa using congrArg List.length d1
 obtain ⟨hs2, hs3⟩ := sums_bd hck
 refine ⟨cir_ok hW hS.ok hNl n2 b2 d2, hS.wf, hq, by rw [hbl]; exact hst, hbl, by rw [hNl, h3], by rw [bitsN_len _ _ _ _ (Nat.le_refl _), hNl], fun i h h2 => ?_, hBl, fun i h h2 => ?_, hHl, fun i h h2 => ?_, rfl, fun i h => by rw [lenW_succ h, Gg.getD_at h], by omega, fun i h j hj => ?_⟩
 · obtain ⟨v1, v2⟩ := n2 _ (List.getElem_mem h)
   exact ⟨v1, v2, map_at n1 h h2⟩
 · obtain ⟨v1, v2⟩ := b2 _ (List.getElem_mem h)
   obtain ⟨p1, p2⟩ := hinB _ (List.getElem_mem h2)
   refine ⟨v1, v2, ?_, p1, by rw [hvl]; exact p2⟩
   have := map_at b1 h (by simpa using h2)
   rw [List.getElem_map] at this
   exact this
 · obtain ⟨v1, v2⟩ := d2 _ (List.getElem_mem h)
   obtain ⟨p1, p2⟩ := hinH _ (List.getElem_mem h2)
   refine ⟨v1, v2, ?_, p1, by rw [hvl]; exact p2⟩
   have := map_at d1 h (by simpa using h2)
   rw [List.getElem_map] at this
   exact this
 · have hle : lenW ns (sel (isK ns 3) ns.length) i + j < lenW ns (sel (isK ns 3) ns.length) (sel (isK ns 3) ns.length).length := by
     have hmono : ∀ d k, k + d = (sel (isK ns 3) ns.length).length → lenW ns (sel (isK ns 3) ns.length) k ≤ lenW ns (sel (isK ns 3) ns.length) (sel (isK ns 3) ns.length).length := by
       intro d
       induction d with
       | zero => intro k hk; rw [show k = (sel (isK ns 3) ns.length).length by omega]; exact Nat.le_refl _
       | succ d ih =>
         intro k hk
         have := ih (k + 1) (by omega)
         rw [lenW_succ (by omega)] at this
         omega
     have h4 := hmono ((sel (isK ns 3) ns.length).length - (i + 1)) (i + 1) (by omega)
     rw [lenW_succ h, Gg.getD_at h] at h4
     omega
   have g1 : lenW ns (sel (isK ns 3) ns.length) i + j < (iniL ns is (sel (isK ns 3) ns.length).length).length := by rw [iniL_len _ _ _ (Nat.le_refl _)]; exact hle
   have g2 : lenW ns (sel (isK ns 3) ns.length) i + j < (bitsN ns (sel (isK ns 3) ns.length) (beginRL ns is sts (vals ns (zeroS ns) (zeroI ns) ns.length)) (sel (isK ns 3) ns.length).length).length := by rw [bitsN_len _ _ _ _ (Nat.le_refl _)]; exact hle
   refine ⟨g1, g2, ?_⟩
   obtain ⟨f1, f2⟩ := ini_fact hck sts qs (bitsN ns (sel (isK ns 2) ns.length) ins (sel (isK ns 2) ns.length).length ++ bitsN ns (sel (isK ns 3) ns.length) sts (sel (isK ns 3) ns.length).length) h hj
   rw [Gg.getD_at g1] at f1 f2
   rw [getD_bool g2] at f2
   by_cases hp : pairOf ((sel (isK ns 3) ns.length)[i]) is < 0
   · exact Or.inl ⟨hp, f1 hp⟩
   · exact Or.inr ⟨by omega, (f2 (by omega)).1, (f2 (by omega)).2⟩
end Go.Proofs.YtabnimgpednhjabGreat
