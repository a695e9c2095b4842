import Derived.Test.YtabnimgpednhjabGreatFc
import Derived.Test.YtabnimgpednhjabGreatVdM
import Derived.Test.YtabnimgpednhjabGreatMkM
import Derived.Test.YtabnimgpednhjabGreatMfM
import Derived.Test.YtabnimgpednhjabGreatDiM
namespace Go.Proofs.YtabnimgpednhjabGreat.Gg
open Go.RowKit
set_option maxRecDepth 100000
theorem cmod (a b : Nat) : ((a % b : Nat) : Int) = (a : Int) % (b : Int) := rfl
theorem cdiv (a b : Nat) : ((a / b : Nat) : Int) = (a : Int) / (b : Int) := rfl
theorem two_cast (a : Nat) : two (a : Int) = ((2 ^ a : Nat) : Int) := by unfold two; rw [Int.toNat_natCast]; push_cast; rfl
structure DoesI (n k : Nat) (ps : Gr) (len : Nat) (r : List Int × Gr) (F : List Bool → Int) : Prop where
 ext : Ext n k ps r.2
 vals : Vals n r.2 r.1
 len : r.1.length = len
 num : ∀ bs : List Bool, bs.length = n → ((numW r.2 bs r.1 : Nat) : Int) = F bs
theorem DoesW.int {n k j : Nat} {ps : Gr} {len : Nat} {r : List Int × Gr} {F : List Bool → Nat} {G : List Bool → Int} (h : DoesW n k ps len r F) (hk : k ≤ j) (e : ∀ bs : List Bool, bs.length = n → ((F bs : Nat) : Int) = G bs) : DoesI n j ps len r G :=
 ⟨h.ext.more hk, h.vals, h.len, fun bs hb => by rw [h.num bs hb]; exact e bs hb⟩
theorem quiet_does {n : Nat} {ps : Gr} (hg : chkE n ps = 0) {l : List Int} {len : Nat} {F : List Bool → Int} (hv : Vals n ps l) (hl : l.length = len) (e : ∀ bs : List Bool, bs.length = n → ((numW ps bs l : Nat) : Int) = F bs) : DoesI n 1000 ps len (l, ps) F :=
 ⟨(Ext.refl hg).more (by omega), hv, hl, e⟩
theorem calc_cast {k : Int} {len a b : Nat} (c xn wa wb : Int) (hk : k = 5 ∨ k = 9 ∨ k = 10 ∨ k = 11 ∨ k = 12 ∨ k = 13 ∨ k = 14 ∨ k = 15) (ha : a < 2 ^ len) (hb : k ≠ 5 → b < 2 ^ len) : ((calcN k len a b : Nat) : Int) = madeE k len a b c xn wa wb := by
 unfold calcN madeE
 rw [two_cast]
 rcases hk with rfl | rfl | rfl | rfl | rfl | rfl | rfl | rfl
 · simp only [if_true, show ¬ (5 : Int) = 4 by decide, if_false]
   rw [cmod, Int.ofNat_sub (by omega)]
 · simp only [if_true, show ¬ (9 : Int) = 4 by decide, show ¬ (9 : Int) = 5 by decide, show ¬ (9 : Int) = 6 by decide, show ¬ (9 : Int) = 7 by decide, show ¬ (9 : Int) = 8 by decide, if_false]
   rw [cmod]; push_cast; rfl
 · simp only [if_true, show ¬ (10 : Int) = 4 by decide, show ¬ (10 : Int) = 5 by decide, show ¬ (10 : Int) = 6 by decide, show ¬ (10 : Int) = 7 by decide, show ¬ (10 : Int) = 8 by decide, show ¬ (10 : Int) = 9 by decide, if_false]
   have := hb (by decide)
   rw [cmod, Int.ofNat_sub (by omega)]; push_cast; rfl
 · simp only [if_true, show ¬ (11 : Int) = 4 by decide, show ¬ (11 : Int) = 5 by decide, show ¬ (11 : Int) = 6 by decide, show ¬ (11 : Int) = 7 by decide, show ¬ (11 : Int) = 8 by decide, show ¬ (11 : Int) = 9 by decide, show ¬ (11 : Int) = 10 by decide, if_false]
   rw [cmod]; push_cast; rfl
 · simp only [if_true, show ¬ (12 : Int) = 4 by decide, show ¬ (12 : Int) = 5 by decide, show ¬ (12 : Int) = 6 by decide, show ¬ (12 : Int) = 7 by decide, show ¬ (12 : Int) = 8 by decide, show ¬ (12 : Int) = 9 by decide, show ¬ (12 : Int) = 10 by decide, show ¬ (12 : Int) = 11 by decide, if_false]
   by_cases h0 : b = 0
   · rw [if_pos h0, if_pos (by omega), Int.ofNat_sub (by omega)]; rfl
   · rw [if_neg h0, if_neg (by omega), cdiv]
 · simp only [if_true, show ¬ (13 : Int) = 4 by decide, show ¬ (13 : Int) = 5 by decide, show ¬ (13 : Int) = 6 by decide, show ¬ (13 : Int) = 7 by decide, show ¬ (13 : Int) = 8 by decide, show ¬ (13 : Int) = 9 by decide, show ¬ (13 : Int) = 10 by decide, show ¬ (13 : Int) = 11 by decide, show ¬ (13 : Int) = 12 by decide, if_false]
   by_cases h0 : b = 0
   · rw [if_pos h0, if_pos (by omega)]
   · rw [if_neg h0, if_neg (by omega), cmod]
 · simp only [if_true, show ¬ (14 : Int) = 4 by decide, show ¬ (14 : Int) = 5 by decide, show ¬ (14 : Int) = 6 by decide, show ¬ (14 : Int) = 7 by decide, show ¬ (14 : Int) = 8 by decide, show ¬ (14 : Int) = 9 by decide, show ¬ (14 : Int) = 10 by decide, show ¬ (14 : Int) = 11 by decide, show ¬ (14 : Int) = 12 by decide, show ¬ (14 : Int) = 13 by decide, if_false]
   by_cases h0 : len ≤ b
   · rw [if_pos (by omega)]
     obtain ⟨d, rfl⟩ : ∃ d, b = len + d := ⟨b - len, by omega⟩
     rw [Nat.pow_add, ← Nat.mul_assoc, Nat.mul_right_comm, Nat.mul_mod_left]; rfl
   · rw [if_neg (by omega), cmod, two_cast]; push_cast; rfl
 · simp only [show ¬ (15 : Int) = 4 by decide, show ¬ (15 : Int) = 5 by decide, show ¬ (15 : Int) = 6 by decide, show ¬ (15 : Int) = 7 by decide, show ¬ (15 : Int) = 8 by decide, show ¬ (15 : Int) = 9 by decide, show ¬ (15 : Int) = 10 by decide, show ¬ (15 : Int) = 11 by decide, show ¬ (15 : Int) = 12 by decide, show ¬ (15 : Int) = 13 by decide, show ¬ (15 : Int) = 14 by decide, if_false, if_true]
   by_cases h0 : len ≤ b
   · rw [if_pos (by omega), Nat.div_eq_of_lt (Nat.lt_of_lt_of_le ha (Nat.pow_le_pow_right (by omega) h0))]; rfl
   · rw [if_neg (by omega), cdiv, two_cast]
theorem yes_cast {P : Prop} [Decidable P] {q : Bool} (h : P ↔ q = true) : (((if P then 1 else 0 : Nat)) : Int) = yesOf q := by
 unfold yesOf
 by_cases hp : P
 · rw [if_pos hp, if_pos (h.1 hp)]; rfl
 · rw [if_neg hp, if_neg (fun e => hp (h.2 e))]; rfl
theorem sgn_cast {a m : Nat} : sgn (a : Int) ((m + 1 : Nat) : Int) = if a < 2 ^ m then (a : Int) else (a : Int) - ((2 ^ (m + 1) : Nat) : Int) := by
 unfold sgn
 rw [show (((m + 1 : Nat) : Int) - 1) = (m : Int) by omega, two_cast, two_cast]
 by_cases h : a < 2 ^ m
 · rw [if_pos h, if_pos (by exact_mod_cast h)]
 · rw [if_neg h, if_neg (by intro e; exact h (by exact_mod_cast e))]
theorem map_vals {n : Nat} {ps : Gr} {f : Nat → Int} {k : Nat} (h : ∀ i, i < k → Val n ps (f i)) : Vals n ps ((List.range k).map f) := fun x hx => by
 obtain ⟨i, hi, rfl⟩ := List.mem_map.1 hx
 exact h i (List.mem_range.1 hi)
theorem spread_vals {n : Nat} {ps : Gr} {l : List Int} (h : Vals n ps l) (i : Nat) : Val n ps (spreadF l i) := by
 unfold spreadF
 exact h.at' _
def nodeN (k : Int) (wd : Nat) (xn : Int) (a b c wa wb : Nat) : Int := if k = 1 then xn else madeE k wd a b c xn wa wb
theorem oper_does {n : Nat} {ps : Gr} (hg : chkE n ps = 0) {xs ys zs : List Int} {wd : Nat} {k xn : Int} (hwd : 1 ≤ wd ∧ wd ≤ 8) (hl : ps.length + 1200 < 1000000) (hf : fitW k wd xn xs.length ys.length zs.length) (hX : Vals n ps xs) (hY : Vals n ps ys) (hZ : Vals n ps zs) :
   DoesI n 1000 ps wd (operR n k wd xn xs ys zs ps) (fun bs => nodeN k wd xn (numW ps bs xs) (numW ps bs ys) (numW ps bs zs) xs.length ys.length) := by
 rcases hf with ⟨rfl, h0, h1⟩ | ⟨hk, ha⟩ | ⟨hk, ha, hb⟩ | ⟨hk, ha0, ha8, hb, rfl⟩ | ⟨rfl, ha, hb, hc⟩ | ⟨rfl, ha, hb, hab⟩ | ⟨rfl, h0, h1, h8⟩ | ⟨hk, h0, h1⟩
 · exact quiet_does hg vals_const (bitsC_len _ _) fun bs _ => num_const h0 h1
 · rcases hk with rfl | rfl
   · refine quiet_does hg hX.turns (by simp; exact ha) fun bs _ => ?_
     show ((numW ps bs (xs.map turn) : Nat) : Int) = two wd - 1 - numW ps bs xs
     have := numW_lt ps bs xs
     rw [num_not, two_cast, ← ha]
     omega
   · have h := calc_does (ys := ys) hg (by omega) (by omega) hX (k := 5) (Or.inl rfl)
     rw [ha] at h
     refine h.int (Nat.le_refl _) fun bs _ => ?_
     have := numW_lt ps bs xs
     rw [ha] at this
     exact calc_cast (numW ps bs zs) xn xs.length ys.length (Or.inl rfl) this (fun e => absurd rfl e)
 · have h2 : k = 6 ∨ k = 7 ∨ k = 8 ∨ (k = 9 ∨ k = 10 ∨ k = 11 ∨ k = 12 ∨ k = 13 ∨ k = 14 ∨ k = 15) := by omega
   rcases h2 with rfl | rfl | rfl | h2
   · refine (zip_num (lim := 0) hg (bothG n) (fun a b => a && b) (fun {qs} hg hq p q hp hq' => both_does hg hq hp hq') ha hb (by omega) hX hY).int (by omega) fun bs _ => ?_
     show _ = (((numW ps bs xs : Int).toNat &&& (numW ps bs ys : Int).toNat : Nat) : Int)
     rw [numB_and, Int.toNat_natCast, Int.toNat_natCast]
     unfold numW
     rw [ha, hb]
   · refine (zip_num (lim := 0) hg (eitherG n) (fun a b => a || b) (fun {qs} hg hq p q hp hq' => either_does hg hq hp hq') ha hb (by omega) hX hY).int (by omega) fun bs _ => ?_
     show _ = (((numW ps bs xs : Int).toNat ||| (numW ps bs ys : Int).toNat : Nat) : Int)
     rw [numB_or, Int.toNat_natCast, Int.toNat_natCast]
     unfold numW
     rw [ha, hb]
   · refine (zip_num (lim := 2) hg (differG n) (fun a b => a != b) (fun {qs} hg hq p q hp hq' => differ_does hg hq hp hq') ha hb (by omega) hX hY).int (by omega) fun bs _ => ?_
     show _ = (((numW ps bs xs : Int).toNat ^^^ (numW ps bs ys : Int).toNat : Nat) : Int)
     rw [numB_xor, Int.toNat_natCast, Int.toNat_natCast]
     unfold numW
     rw [ha, hb]
   · have h := calc_does hg (by omega) (by omega) hX (k := k) (Or.inr ⟨h2, by omega, hY⟩)
     rw [ha] at h
     have e : operR n k wd xn xs ys zs ps = calcR n k xs ys ps := by
       unfold operR
       rw [if_neg (by omega), if_neg (by omega), if_neg (by omega), if_neg (by omega), if_neg (by omega), if_neg (by omega), if_neg (by omega), if_neg (by omega), if_neg (by omega), if_neg (by omega), if_neg (by omega), if_neg (by omega), if_neg (by omega)]
     rw [e]
     refine h.int (Nat.le_refl _) fun bs _ => ?_
     have l1 := numW_lt ps bs xs
     have l2 := numW_lt ps bs ys
     rw [ha] at l1
     rw [hb] at l2
     unfold nodeN
     rw [if_neg (by omega)]
     exact calc_cast _ _ _ _ (Or.inr h2) l1 (fun _ => l2)
 · have h2 : k = 16 ∨ k = 17 ∨ k = 18 := by omega
   rcases h2 with rfl | rfl | rfl
   · refine (same_num hg hb ha8 (by omega) hX hY).int (by omega) fun bs _ => ?_
     show _ = yesOf ((numW ps bs xs : Int) == (numW ps bs ys : Int))
     exact yes_cast (by simp; omega)
   · refine (less_number hg hb ha8 (by omega) hX hY).int (by omega) fun bs _ => ?_
     show _ = yesOf (decide ((numW ps bs xs : Int) < (numW ps bs ys : Int)))
     exact yes_cast (by simp)
   · have h := less_number hg (xs := upL xs) (ys := upL ys) (by rw [upL_len, upL_len, hb]) (by rw [upL_len]; exact ha8) (by omega) (upL_vals hX) (upL_vals hY)
     rw [upL_len] at h
     refine h.int (by omega) fun bs _ => ?_
     show _ = yesOf (decide (sgn (numW ps bs xs : Int) xs.length < sgn (numW ps bs ys : Int) ys.length))
     obtain ⟨m, hm⟩ : ∃ m, xs.length = m + 1 := ⟨xs.length - 1, by omega⟩
     have e1 := @num_up ps bs xs m hm
     have e2 := @num_up ps bs ys m (by omega)
     have p1 := Nat.pow_succ (n := 2) (m := m)
     have l1 := numW_lt ps bs xs
     have l2 := numW_lt ps bs ys
     refine yes_cast ?_
     rw [hb, hm, sgn_cast, sgn_cast]
     rw [hb, hm] at l2
     rw [hm] at l1
     rw [show (List.range xs.length).map (upF xs) = upL xs from rfl] at e1
     rw [show (List.range ys.length).map (upF ys) = upL ys from rfl] at e2
     simp only [decide_eq_true_eq]
     generalize numW ps bs (upL xs) = U at *
     generalize numW ps bs (upL ys) = V at *
     generalize numW ps bs xs = a at *
     generalize numW ps bs ys = b at *
     generalize 2 ^ (m + 1) = Q at *
     generalize 2 ^ m = P at *
     by_cases c1 : a < P <;> by_cases c2 : b < P <;> simp only [c1, c2, if_true, if_false] at * <;> omega
 · refine (ite_num hg hb hc (by omega) (getD_val hX (by omega)) hY hZ).int (by omega) fun bs _ => ?_
   show _ = if (numW ps bs xs : Int) = 1 then (numW ps bs ys : Int) else (numW ps bs zs : Int)
   have e : numW ps bs xs = if sem ps bs (xs.getD 0 0) then 1 else 0 := by
     unfold numW
     rw [ha]
     show 0 + (if sem ps bs (xs.getD 0 0) then 2 ^ 0 else 0) = _
     rw [Nat.zero_add]
   rw [e]
   cases sem ps bs (xs.getD 0 0) <;> simp
 · refine quiet_does hg (fun x hx => by rcases List.mem_append.1 hx with h | h; exact hY x h; exact hX x h) (by simp; omega) fun bs _ => ?_
   show _ = (numW ps bs xs : Int) * two ys.length + (numW ps bs ys : Int)
   rw [num_join, two_cast]; push_cast; rfl
 · refine quiet_does hg (fun x hx => hX x (List.mem_of_mem_drop (List.mem_of_mem_take hx))) (by simp; omega) fun bs _ => ?_
   show _ = (numW ps bs xs : Int) / two xn % two wd
   have hn : xn = ((xn.toNat : Nat) : Int) := by omega
   rw [num_cut (by omega), cmod, cdiv, hn, two_cast, two_cast, Int.toNat_natCast]
 · rcases hk with rfl | rfl
   · exact quiet_does hg (map_vals fun i _ => atL_val hX _) (by simp) fun bs _ => by rw [num_wide h1]; rfl
   · refine quiet_does hg (map_vals fun i _ => spread_vals hX i) (by simp) fun bs _ => ?_
     show _ = (sgn (numW ps bs xs : Int) xs.length + two wd) % two wd
     obtain ⟨m, hm⟩ : ∃ m, xs.length = m + 1 := ⟨xs.length - 1, by omega⟩
     have l1 := numW_lt ps bs xs
     rw [num_spread hm (by omega), hm, sgn_cast, two_cast]
     rw [hm] at l1
     have hp : 2 ^ (m + 1) ≤ 2 ^ wd := Nat.pow_le_pow_right (by omega) (by omega)
     generalize numW ps bs xs = a at *
     generalize 2 ^ (m + 1) = Q at *
     generalize 2 ^ wd = R at *
     by_cases c1 : a < 2 ^ m
     · rw [if_pos c1, if_pos c1, Nat.add_zero, Int.add_emod_right, Int.emod_eq_of_lt (by omega) (by omega)]
     · rw [if_neg c1, if_neg c1, Int.emod_eq_of_lt (by omega) (by omega)]
       omega
end Go.Proofs.YtabnimgpednhjabGreat.Gg

namespace Go.Proofs.YtabnimgpednhjabGreat
open Go.RowKit Go.Maps
set_option maxRecDepth 100000
def lastV (l : List (Int × Int)) (x : Int) : Int := l.foldl (fun a p => if p.1 = x then p.2 else a) 0
theorem lastV_snoc (l : List (Int × Int)) (p : Int × Int) (x : Int) : lastV (l ++ [p]) x = if p.1 = x then p.2 else lastV l x := by simp [lastV, List.foldl_append]
theorem run_makeMap92 (n : Nat) (w : World) : (Instr.makeMap 92 (some (.int .i64 (n : Int)))).run Tryz.prog w = .ok (.map (some w.heap.size)) (w.alloc (.map #[] 0)) := by
 simp [Instr.makeMap]; rfl
structure PartIs (l : List (Int × Int)) (D : DataW Unit) : Prop where
 has : ∀ x : Int, Maps.has D (.int .i64 x) = (fsts l).contains x
 at' : ∀ x : Int, D.atKey (.int .i64 x) (.lit (.int .i64 0)) = .lit (.int .i64 (lastV l x))
theorem partIs_zero : PartIs [] (.map []) := ⟨fun _ => rfl, fun _ => rfl⟩
theorem PartIs.step {l : List (Int × Int)} {D : DataW Unit} (h : PartIs l D) (hm : IsMap D) (s y : Int) : PartIs (l ++ [(s, y)]) (D.put (.int .i64 s) (.lit (.int .i64 y))) := by
 refine ⟨fun x => ?_, fun x => ?_⟩
 · by_cases e : x = s
   · subst e
     rw [has_put_same hm (k := .int .i64 x) trivial]
     simp [fsts]
   · rw [has_put_other (by simpa using e), h.has x]
     simp [fsts, e]
 · rw [lastV_snoc]
   by_cases e : x = s
   · subst e
     rw [atKey_put_same hm (k := .int .i64 x) trivial, if_pos rfl]
   · rw [atKey_put_other (by simpa using e), h.at' x, if_neg (fun q => e q.symm)]
set_option maxHeartbeats 2000000 in
theorem partners_any (p : Option Addr) (cap : Nat) (l : List (Int × Int)) (hl : l.length ≤ 8796093022208) (hs : ∀ (i : Nat) (h : i < l.length), 0 ≤ l[i].1 ∧ l[i].1 < 80 ∧ 0 ≤ l[i].2 ∧ l[i].2 < 80) (w : World) (hP : PairsAt w p l) :
   Calls Tryz.prog 54 #[.slice p l.length cap] w fun e w' => ∃ (M : Nat) (D : DataW Unit), e = .returned (.map (some M)) ∧ w.heap.size ≤ M ∧ w'.ownsMap Tryz.prog 3 (plainElem Tryz.prog 3) M l.length D ∧ PartIs l D ∧ Below w.heap.size w w' := by
 have hmm := run_makeMap92
 have HS := hide hs
 have HP := hide hP
 clear hs hP
 go_enter Tryz.func54, Tryz.ntmps54
 go_wp2
 go_loopw [11] (fun i wr => ∃ k : Nat, k ≤ l.length ∧ i = .int .i64 k ∧ Below w.heap.size w wr ∧ ∃ D : DataW Unit, wr.ownsMap Tryz.prog 3 (plainElem Tryz.prog 3) w.heap.size k D ∧ Hid (PartIs (l.take k) D)) (fun i _ => l.length - (intOf i).toNat)
 case atStart => exact ⟨0, Nat.zero_le _, rfl, bal (Below.refl _ _) _, .map [], World.ownsMap_made _ _ _ _, partIs_zero⟩
 case round =>
   obtain ⟨k, hk, rfl, hbw, D, hown, hD⟩ := hrel
   by_cases hlt : k < l.length
   · obtain ⟨b, off, rfl, hc⟩ := (HP.out.later hbw) (by omega)
     obtain ⟨c0, c1⟩ := hc k hlt
     have hsk := HS.out k hlt
     have hki : (k : Int) < (l.length : Int) := by omega
     have HST : Hid (PartIs (l.take (k + 1)) (D.put (.int .i64 l[k].1) (.lit (.int .i64 l[k].2)))) := by
       rw [List.take_succ_eq_append_getElem hlt]
       exact hD.out.step hown.isMap _ _
     clear hc hD
     generalize l[k] = pr at *
     obtain ⟨s, y⟩ := pr
     simp only at *
     have hkey : keyOf Tryz.prog 3 (.int .i64 s) = some (.int .i64 s) := keyOf_int_mk Tryz.underlying3 (WalkArith.wf_i64 (by omega))
     have hlw := hown.lt
     go_wp2_with (at_mapUpdate; refine wpList_mapUpdate_own _ rfl _ _ _ 92 rfl 3 3 law3 Tryz.underlying92 _ w.heap.size k _ rfl (hown.alloc _) (by unfold maxLen; omega) _ _ _ rfl rfl hkey _ [] (plainElem_int Tryz.underlying3 (WalkArith.wf_i64 (by omega))) ?_; intro w1 hown1 hgrow1)
     have HO1 := hide hown1
     have hbn : Below w.heap.size w w1 := (bal hbw _).grown hgrow1 (by simp; omega) (fun j hj => by cases hj; exact Nat.le_refl _)
     clear hown1 hgrow1 hown hbw
     go_roundw
     case rel => exact ⟨k + 1, by omega, by go_num, hbn, _, HO1.out, HST⟩
     case measure => simp [intOf]; omega
   · obtain rfl : k = l.length := by omega
     rw [List.take_length] at hD
     go_wp2
     go_ret
     exact ⟨w.heap.size, D, rfl, Nat.le_refl _, hown, hD.out, hbw⟩
end Go.Proofs.YtabnimgpednhjabGreat

namespace Go.Proofs.YtabnimgpednhjabGreat
open Go.RowKit Go.Maps
set_option maxRecDepth 100000
theorem sel_in {f : Nat → Bool} {n k : Nat} (h : k < (sel f n).length) : 0 ≤ (sel f n)[k] ∧ (sel f n)[k] < n := sel_bd h
def nextsL (xs : List (Int × Int)) (l : List Int) (k : Nat) : List Int := (l.take k).map (lastV xs)
theorem nextsL_succ (xs : List (Int × Int)) (l : List Int) (k : Nat) (h : k < l.length) : nextsL xs l (k + 1) = nextsL xs l k ++ [lastV xs l[k]] := by
 unfold nextsL
 rw [List.take_succ_eq_append_getElem h, List.map_append]
 rfl
theorem nextsL_len (xs : List (Int × Int)) (l : List Int) (k : Nat) (h : k ≤ l.length) : (nextsL xs l k).length = k := by simp [nextsL]; omega
set_option maxHeartbeats 4000000 in
theorem nextOnes_any (a0 a1 a2 a3 a4 : Option Addr) (c0 c1 c2 c3 c4 l1 l3 l4 : Nat) (ns : List Nd) (xs : List (Int × Int)) (hl : ns.length ≤ 80) (hlx : xs.length ≤ 8796093022208) (hs : ∀ (i : Nat) (h : i < xs.length), 0 ≤ xs[i].1 ∧ xs[i].1 < 80 ∧ 0 ≤ xs[i].2 ∧ xs[i].2 < 80) (w : World) (hN : NodesAt w a0 ns) (hX : PairsAt w a2 xs) :
   Calls Tryz.prog 36 #[Mv.val ⟨a0, c0, a1, l1, c1, a2, xs.length, c2, a3, l3, c3, a4, l4, c4⟩ ns.length] w fun e w' => ∃ p cap, e = .returned (.slice p ((sel (isK ns 3) ns.length).map (lastV xs)).length cap) ∧ IntsAt w' p ((sel (isK ns 3) ns.length).map (lastV xs)) ∧ Below w.heap.size w w' := by
 have hB0 : Below w.heap.size w (w.alloc (.cells (Mv.cells ⟨a0, c0, a1, l1, c1, a2, xs.length, c2, a3, l3, c3, a4, l4, c4⟩ ns.length) 35)) := bal (Below.refl _ _) _
 have HP := hide (partners_any a2 c2 xs hlx hs _ (hX.later hB0))
 have HN := hide hN
 have HSL := hide (sel_len (isK ns 3) ns.length)
 have HBD := hide (fun k (h : k < (sel (isK ns 3) ns.length).length) => sel_in h)
 have HOK := hide (fun (w' : World) (hb : Below w.heap.size w w') => ofKind_any a0 c0 ns (by omega) 3 w' (hN.later hb))
 generalize sel (isK ns 3) ns.length = l at *
 have hll := HSL.out
 generalize hR : l.map (lastV xs) = R at *
 have HRQ := hide hR
 clear hN hX hs HSL hR
 go_enter Tryz.func36, Tryz.ntmps36
 go_wp2_with fail
 refine HP.out.mono ?_
 rintro e w1 ⟨M, D, rfl, _, hown, hD, hb1⟩
 have q0 := cell_later hb1 (a := ⟨w.heap.size, 0, none⟩) (v := .slice a0 ns.length c0) (by simp [go_sem])
 have HB1 := hide (bthen hB0 hb1)
 have HD := hide hD
 have HO := hide hown
 clear hb1 hB0 hown hD
 go_wp2_with fail
 refine (HOK.out _ HB1.out).mono ?_
 rintro e w2 ⟨p2, cap2, rfl, hI2, hb2⟩
 have HO2 := hide (Gg.map_below HO.out hb2)
 have HB2 := hide (bthen HB1.out hb2)
 have HI2 := hide hI2
 clear hb2 hI2 HO HB1 q0
 clear HP HN
 go_wp2
 go_loopw [4, 14] (fun v i wr => ∃ k : Nat, k ≤ l.length ∧ i = .int .i64 k ∧ wr.ownsRow w2.heap.size 3 1 v (nextsL xs l k).length ((nextsL xs l k).map (Value.int .i64)) ∧ Below w2.heap.size w2 wr) (fun _ i _ => l.length - (intOf i).toNat)
 case atStart => exact ⟨0, Nat.zero_le _, rfl, World.ownsRow_nil _ _ _ _, Below.refl _ _⟩
 case round =>
   obtain ⟨k, hk, rfl, hown, hbw⟩ := hrel
   have hszw := hbw.size
   by_cases hlt : k < l.length
   · obtain ⟨b, off, rfl, hc⟩ := (HI2.out.later hbw) (by omega)
     have hck := hc k hlt
     have hki : (k : Int) < (l.length : Int) := by omega
     have hbd := HBD.out k hlt
     have HS := hide (nextsL_succ xs l k hlt)
     have HLN := hide (nextsL_len xs l k hk)
     have HOM := hide (Gg.map_below HO2.out hbw)
     have HOW := hide hown
     have HBW := hide hbw
     clear hc hown hbw
     generalize l[k] = x at *
     have hkey : keyOf Tryz.prog 3 (.int .i64 x) = some (.int .i64 x) := keyOf_int_mk Tryz.underlying3 (WalkArith.wf_i64 (by omega))
     have HAT := hide (HD.out.at' x)
     generalize nextsL xs l k = us at *
     generalize lastV xs x = y at *
     go_wp2_with (first
       | (at_lookup; refine wpList_lookup_own_int _ rfl _ _ 92 rfl 3 3 .i64 law3 Tryz.underlying92 Tryz.underlying3 (zero3 _) M xs.length D rfl HOM.out _ _ rfl hkey ?_; intro c hat hwc; have hcy : c = y := lit_inj (hat.symm.trans HAT.out); subst hcy; clear hat hwc)
       | (at_builtin; refine Gg.wpList_append_ints rfl _ _ rfl w2.heap.size _ us [c] rfl (HOW.out.alloc _) _ _ rfl (Gg.ints_one c) (fun h => by cases h) (by simp; rw [HLN.out]; omega) (by simp; omega) ?_))
     intro v' w6 hown6 hg6
     have HB6 := hide ((bal HBW.out _).grown hg6 (by simp; omega) (fun j hj => (HOW.out.lt j hj).1))
     have hown7 : w6.ownsRow w2.heap.size 3 1 v' (nextsL xs l (k + 1)).length ((nextsL xs l (k + 1)).map (Value.int .i64)) := by rw [HS.out]; simpa using hown6
     clear hown6 hg6
     go_wp2
     go_roundw
     case rel => exact ⟨k + 1, by omega, by go_num, hown7, HB6.out⟩
     case measure => simp [intOf]; omega
   · obtain rfl : k = l.length := by omega
     have hki : ¬ (l.length : Int) < (l.length : Int) := by omega
     have hall : nextsL xs l l.length = R := by rw [← HRQ.out]; simp [nextsL]
     rw [hall] at hown
     obtain ⟨pv, cv, rfl, hiv, _⟩ := Gg.owns_ints hown
     have HIV := hide hiv
     have HBW := hide (bthen HB2.out hbw)
     clear hall hown hiv hbw
     go_wp2
     go_ret
     exact ⟨pv, ⟨cv, rfl⟩, HIV.out, HBW.out⟩
end Go.Proofs.YtabnimgpednhjabGreat

namespace Go.Proofs.YtabnimgpednhjabGreat
open Go.RowKit
set_option maxRecDepth 100000
theorem bit_any (a j : Int) (ha : 0 ≤ a) (ha2 : a < 256) (hj : 0 ≤ j) (hj2 : j ≤ 8) (w : World) :
   Calls Tryz.prog 40 #[.int .i64 a, .int .i64 j] w fun e w' => e = .returned (.int .i64 (a / two j % 2)) ∧ w' = w := by
 have ht := two_bd (v := j) (by omega)
 have hne : ¬ two j = 0 := by omega
 have h1 := Int.ediv_nonneg ha (show 0 ≤ two j from by omega)
 have h2 := Int.ediv_le_self (two j) ha
 go_enter Tryz.func40, Tryz.ntmps40
 go_wp2_with (go_at_call 14; refine (two_any _ (by omega) (by omega) _).mono ?_; rintro e w' ⟨rfl, rfl⟩)
 go_ret
 exact ⟨rfl, rfl⟩
theorem yes_any (b : Bool) (w : World) :
   Calls Tryz.prog 64 #[.bool b] w fun e w' => e = .returned (.int .i64 (yesOf b)) ∧ w' = w := by
 cases b
 all_goals
   go_enter Tryz.func64, Tryz.ntmps64
   go_wp2
   go_ret
   exact ⟨rfl, rfl⟩
theorem top_bit (a v : Int) (hv : 1 ≤ v ∧ v ≤ 8) (ha : 0 ≤ a) (ha2 : a < two v) : (a / two (v - 1) % 2 = 0 ∧ sgn a v = a) ∨ (a / two (v - 1) % 2 = 1 ∧ sgn a v = a - two v) := by
 have : v = 1 ∨ v = 2 ∨ v = 3 ∨ v = 4 ∨ v = 5 ∨ v = 6 ∨ v = 7 ∨ v = 8 := by omega
 by_cases hc : a < two (v - 1)
 · left
   refine ⟨?_, by unfold sgn; rw [if_pos hc]⟩
   rw [Int.ediv_eq_zero_of_lt ha hc]
   rfl
 · right
   refine ⟨?_, by unfold sgn; rw [if_neg hc]⟩
   rcases this with rfl | rfl | rfl | rfl | rfl | rfl | rfl | rfl <;> simp [two] at hc ha2 ⊢ <;> omega
set_option maxHeartbeats 400000 in
theorem signedR_any (a v : Int) (hv : 1 ≤ v ∧ v ≤ 8) (ha : 0 ≤ a) (ha2 : a < two v) (w : World) :
   Calls Tryz.prog 65 #[.int .i64 a, .int .i64 v] w fun e w' => e = .returned (.int .i64 (sgn a v)) ∧ w' = w := by
 have hb := two_bd (v := v) (by omega)
 have h2 : a < 256 := by omega
 rcases top_bit a v hv ha ha2 with ⟨h, hs⟩ | ⟨h, hs⟩
 · rw [hs]
   have HB : Hid (∀ w, Calls Tryz.prog 40 #[.int .i64 a, .int .i64 (v - 1)] w fun e w' => e = .returned (.int .i64 0) ∧ w' = w) := by
     intro w
     have := bit_any a (v - 1) ha h2 (by omega) (by omega) w
     rw [h] at this
     exact this
   clear h hs
   go_enter Tryz.func65, Tryz.ntmps65
   go_wp2_with (go_at_call 40; refine (HB.out _).mono ?_; rintro e w' ⟨rfl, rfl⟩)
   go_ret
   exact ⟨rfl, rfl⟩
 · rw [hs]
   have HB : Hid (∀ w, Calls Tryz.prog 40 #[.int .i64 a, .int .i64 (v - 1)] w fun e w' => e = .returned (.int .i64 1) ∧ w' = w) := by
     intro w
     have := bit_any a (v - 1) ha h2 (by omega) (by omega) w
     rw [h] at this
     exact this
   clear h hs
   go_enter Tryz.func65, Tryz.ntmps65
   go_wp2_with (first | (go_at_call 40; refine (HB.out _).mono ?_; rintro e w' ⟨rfl, rfl⟩) | (go_at_call 14; refine (two_any _ (by omega) (by omega) _).mono ?_; rintro e w' ⟨rfl, rfl⟩))
   go_ret
   exact ⟨rfl, rfl⟩
def bwN (f : Nat → Nat → Nat) : Nat → Nat → Nat → Nat
 | 0, _, _ => 0
 | v + 1, a, b => bwN f v a b + f (a / 2 ^ v % 2) (b / 2 ^ v % 2) * 2 ^ v
theorem bw_is (f : Nat → Nat → Nat) (h : ∀ v a b, f a b / 2 ^ v % 2 = f (a / 2 ^ v % 2) (b / 2 ^ v % 2)) (v a b : Nat) : bwN f v a b = f a b % 2 ^ v := by
 induction v with
 | zero => simp [bwN, Nat.mod_one]
 | succ v ih => rw [bwN, ih, Nat.mod_pow_succ, h, Nat.mul_comm]
theorem and_bits (v a b : Nat) : (a &&& b) / 2 ^ v % 2 = (a / 2 ^ v % 2) &&& (b / 2 ^ v % 2) := by
 rw [Nat.and_div_two_pow]
 exact Nat.and_mod_two_pow (n := 1)
theorem or_bits (v a b : Nat) : (a ||| b) / 2 ^ v % 2 = (a / 2 ^ v % 2) ||| (b / 2 ^ v % 2) := by
 rw [Nat.or_div_two_pow]
 exact Nat.or_mod_two_pow (n := 1)
theorem xor_bits (v a b : Nat) : (a ^^^ b) / 2 ^ v % 2 = (a / 2 ^ v % 2) ^^^ (b / 2 ^ v % 2) := by
 rw [Nat.xor_div_two_pow]
 exact Nat.xor_mod_two_pow (n := 1)
theorem bit_nat (a j : Nat) : (a : Int) / two j % 2 = ((a / 2 ^ j % 2 : Nat) : Int) := by
 rw [two_nat]
 simp
theorem two_cast (j : Nat) : two (j : Int) = ((2 ^ j : Nat) : Int) := by rw [two_nat]; simp
set_option maxHeartbeats 2000000 in
theorem bitwise_and (v a b : Nat) (A B : Int) (EA : Hid (A = (a : Int))) (EB : Hid (B = (b : Int))) (hv : v ≤ 8) (ha : a < 256) (hb : b < 256) (w : World) :
   Calls Tryz.prog 63 #[.int .i64 A, .int .i64 B, .int .i64 v, .agg #[.int .i64 0, .int .i64 0, .int .i64 0, .int .i64 1]] w fun e w' => e = .returned (.int .i64 (bwN (fun x y => x &&& y) v a b)) ∧ Below w.heap.size w w' := by
 go_enter Tryz.func63, Tryz.ntmps63
 go_wp2
 go_loopw [9, 10] (fun o i wr => ∃ j : Nat, j ≤ v ∧ i = .int .i64 j ∧ o = .int .i64 (bwN (fun x y => x &&& y) j a b) ∧ Below w.heap.size w wr ∧ wr.cell? ⟨w.heap.size, 0, none⟩ = some (.int .i64 0) ∧ wr.cell? ⟨w.heap.size, 1, none⟩ = some (.int .i64 0) ∧ wr.cell? ⟨w.heap.size, 2, none⟩ = some (.int .i64 0) ∧ wr.cell? ⟨w.heap.size, 3, none⟩ = some (.int .i64 1)) (fun _ i _ => v - (intOf i).toNat)
 case atStart => exact ⟨0, Nat.zero_le _, rfl, rfl, bal (Below.refl _ _) _, by simp [go_sem], by simp [go_sem], by simp [go_sem], by simp [go_sem]⟩
 case round =>
   obtain ⟨j, hj, rfl, rfl, hbl, k0, k1, k2, k3⟩ := hrel
   by_cases hlt : j < v
   · have ht := two_bd (v := (j : Int)) (by omega)
     have hxx : a / 2 ^ j % 2 = 0 ∨ a / 2 ^ j % 2 = 1 := by omega
     have hyy : b / 2 ^ j % 2 = 0 ∨ b / 2 ^ j % 2 = 1 := by omega
     rcases hxx with hx | hx <;> rcases hyy with hy | hy
     · have HA : Hid (∀ w, Calls Tryz.prog 40 #[.int .i64 A, .int .i64 j] w fun e w' => e = .returned (.int .i64 0) ∧ w' = w) := by
         intro w
         have := bit_any a j (by omega) (by omega) (by omega) (by omega) w
         rw [bit_nat, hx] at this
         rw [EA.out]
         exact this
       have HC : Hid (∀ w, Calls Tryz.prog 40 #[.int .i64 B, .int .i64 j] w fun e w' => e = .returned (.int .i64 0) ∧ w' = w) := by
         intro w
         have := bit_any b j (by omega) (by omega) (by omega) (by omega) w
         rw [bit_nat, hy] at this
         rw [EB.out]
         exact this
       have HS : Hid (bwN (fun x y => x &&& y) (j + 1) a b = bwN (fun x y => x &&& y) j a b + 0 * 2 ^ j) := by
         show bwN (fun x y => x &&& y) j a b + (fun x y => x &&& y) (a / 2 ^ j % 2) (b / 2 ^ j % 2) * 2 ^ j = _
         rw [hx, hy]
         rfl
       clear hx hy
       have hbd : bwN (fun x y => x &&& y) j a b < 2 ^ j := by rw [bw_is (fun x y => x &&& y) and_bits j a b]; exact Nat.mod_lt _ (Nat.two_pow_pos j)
       have HT : Hid (two (j : Int) = ((2 ^ j : Nat) : Int)) := two_cast j
       have htt : ((2 ^ j : Nat) : Int) ≤ 256 := by rw [← HT.out]; omega
       have hb0 : (0 : Int) ≤ (bwN (fun x y => x &&& y) j a b : Int) := by omega
       have hb1 : (bwN (fun x y => x &&& y) j a b : Int) < 256 := by omega
       clear hbd htt
       go_wp2_with fail
       go_quiet (first | (go_at_call_of 40 (Value.int IntKind.i64 A); exact Calls.quiet_of_same (HA.out _)) | (go_at_call_of 40 (Value.int IntKind.i64 B); exact Calls.quiet_of_same (HC.out _)) | (go_at_call 14; exact Calls.quiet_of_same (two_any _ (by omega) (by omega) _)))
       go_wp2
       refine ⟨⟨j + 1, by omega, by go_num, ?_, below_drewN hbl nq, k0, k1, k2, k3⟩, by simp [intOf]; omega⟩
       rw [HS.out]
       first
         | (rw [Nat.zero_mul, Nat.add_zero]; done)
         | (rw [HT.out, Nat.one_mul, Int.natCast_add]; done)
     · have HA : Hid (∀ w, Calls Tryz.prog 40 #[.int .i64 A, .int .i64 j] w fun e w' => e = .returned (.int .i64 0) ∧ w' = w) := by
         intro w
         have := bit_any a j (by omega) (by omega) (by omega) (by omega) w
         rw [bit_nat, hx] at this
         rw [EA.out]
         exact this
       have HC : Hid (∀ w, Calls Tryz.prog 40 #[.int .i64 B, .int .i64 j] w fun e w' => e = .returned (.int .i64 1) ∧ w' = w) := by
         intro w
         have := bit_any b j (by omega) (by omega) (by omega) (by omega) w
         rw [bit_nat, hy] at this
         rw [EB.out]
         exact this
       have HS : Hid (bwN (fun x y => x &&& y) (j + 1) a b = bwN (fun x y => x &&& y) j a b + 0 * 2 ^ j) := by
         show bwN (fun x y => x &&& y) j a b + (fun x y => x &&& y) (a / 2 ^ j % 2) (b / 2 ^ j % 2) * 2 ^ j = _
         rw [hx, hy]
         rfl
       clear hx hy
       have hbd : bwN (fun x y => x &&& y) j a b < 2 ^ j := by rw [bw_is (fun x y => x &&& y) and_bits j a b]; exact Nat.mod_lt _ (Nat.two_pow_pos j)
       have HT : Hid (two (j : Int) = ((2 ^ j : Nat) : Int)) := two_cast j
       have htt : ((2 ^ j : Nat) : Int) ≤ 256 := by rw [← HT.out]; omega
       have hb0 : (0 : Int) ≤ (bwN (fun x y => x &&& y) j a b : Int) := by omega
       have hb1 : (bwN (fun x y => x &&& y) j a b : Int) < 256 := by omega
       clear hbd htt
       go_wp2_with fail
       go_quiet (first | (go_at_call_of 40 (Value.int IntKind.i64 A); exact Calls.quiet_of_same (HA.out _)) | (go_at_call_of 40 (Value.int IntKind.i64 B); exact Calls.quiet_of_same (HC.out _)) | (go_at_call 14; exact Calls.quiet_of_same (two_any _ (by omega) (by omega) _)))
       go_wp2
       refine ⟨⟨j + 1, by omega, by go_num, ?_, below_drewN hbl nq, k0, k1, k2, k3⟩, by simp [intOf]; omega⟩
       rw [HS.out]
       first
         | (rw [Nat.zero_mul, Nat.add_zero]; done)
         | (rw [HT.out, Nat.one_mul, Int.natCast_add]; done)
     · have HA : Hid (∀ w, Calls Tryz.prog 40 #[.int .i64 A, .int .i64 j] w fun e w' => e = .returned (.int .i64 1) ∧ w' = w) := by
         intro w
         have := bit_any a j (by omega) (by omega) (by omega) (by omega) w
         rw [bit_nat, hx] at this
         rw [EA.out]
         exact this
       have HC : Hid (∀ w, Calls Tryz.prog 40 #[.int .i64 B, .int .i64 j] w fun e w' => e = .returned (.int .i64 0) ∧ w' = w) := by
         intro w
         have := bit_any b j (by omega) (by omega) (by omega) (by omega) w
         rw [bit_nat, hy] at this
         rw [EB.out]
         exact this
       have HS : Hid (bwN (fun x y => x &&& y) (j + 1) a b = bwN (fun x y => x &&& y) j a b + 0 * 2 ^ j) := by
         show bwN (fun x y => x &&& y) j a b + (fun x y => x &&& y) (a / 2 ^ j % 2) (b / 2 ^ j % 2) * 2 ^ j = _
         rw [hx, hy]
         rfl
       clear hx hy
       have hbd : bwN (fun x y => x &&& y) j a b < 2 ^ j := by rw [bw_is (fun x y => x &&& y) and_bits j a b]; exact Nat.mod_lt _ (Nat.two_pow_pos j)
       have HT : Hid (two (j : Int) = ((2 ^ j : Nat) : Int)) := two_cast j
       have htt : ((2 ^ j : Nat) : Int) ≤ 256 := by rw [← HT.out]; omega
       have hb0 : (0 : Int) ≤ (bwN (fun x y => x &&& y) j a b : Int) := by omega
       have hb1 : (bwN (fun x y => x &&& y) j a b : Int) < 256 := by omega
       clear hbd htt
       go_wp2_with fail
       go_quiet (first | (go_at_call_of 40 (Value.int IntKind.i64 A); exact Calls.quiet_of_same (HA.out _)) | (go_at_call_of 40 (Value.int IntKind.i64 B); exact Calls.quiet_of_same (HC.out _)) | (go_at_call 14; exact Calls.quiet_of_same (two_any _ (by omega) (by omega) _)))
       go_wp2
       refine ⟨⟨j + 1, by omega, by go_num, ?_, below_drewN hbl nq, k0, k1, k2, k3⟩, by simp [intOf]; omega⟩
       rw [HS.out]
       first
         | (rw [Nat.zero_mul, Nat.add_zero]; done)
         | (rw [HT.out, Nat.one_mul, Int.natCast_add]; done)
     · have HA : Hid (∀ w, Calls Tryz.prog 40 #[.int .i64 A, .int .i64 j] w fun e w' => e = .returned (.int .i64 1) ∧ w' = w) := by
         intro w
         have := bit_any a j (by omega) (by omega) (by omega) (by omega) w
         rw [bit_nat, hx] at this
         rw [EA.out]
         exact this
       have HC : Hid (∀ w, Calls Tryz.prog 40 #[.int .i64 B, .int .i64 j] w fun e w' => e = .returned (.int .i64 1) ∧ w' = w) := by
         intro w
         have := bit_any b j (by omega) (by omega) (by omega) (by omega) w
         rw [bit_nat, hy] at this
         rw [EB.out]
         exact this
       have HS : Hid (bwN (fun x y => x &&& y) (j + 1) a b = bwN (fun x y => x &&& y) j a b + 1 * 2 ^ j) := by
         show bwN (fun x y => x &&& y) j a b + (fun x y => x &&& y) (a / 2 ^ j % 2) (b / 2 ^ j % 2) * 2 ^ j = _
         rw [hx, hy]
         rfl
       clear hx hy
       have hbd : bwN (fun x y => x &&& y) j a b < 2 ^ j := by rw [bw_is (fun x y => x &&& y) and_bits j a b]; exact Nat.mod_lt _ (Nat.two_pow_pos j)
       have HT : Hid (two (j : Int) = ((2 ^ j : Nat) : Int)) := two_cast j
       have htt : ((2 ^ j : Nat) : Int) ≤ 256 := by rw [← HT.out]; omega
       have hb0 : (0 : Int) ≤ (bwN (fun x y => x &&& y) j a b : Int) := by omega
       have hb1 : (bwN (fun x y => x &&& y) j a b : Int) < 256 := by omega
       clear hbd htt
       go_wp2_with fail
       go_quiet (first | (go_at_call_of 40 (Value.int IntKind.i64 A); exact Calls.quiet_of_same (HA.out _)) | (go_at_call_of 40 (Value.int IntKind.i64 B); exact Calls.quiet_of_same (HC.out _)) | (go_at_call 14; exact Calls.quiet_of_same (two_any _ (by omega) (by omega) _)))
       go_wp2
       refine ⟨⟨j + 1, by omega, by go_num, ?_, below_drewN hbl nq, k0, k1, k2, k3⟩, by simp [intOf]; omega⟩
       rw [HS.out]
       first
         | (rw [Nat.zero_mul, Nat.add_zero]; done)
         | (rw [HT.out, Nat.one_mul, Int.natCast_add]; done)
   · obtain rfl : j = v := by omega
     go_wp2
     go_ret
     exact ⟨rfl, hbl⟩
set_option maxHeartbeats 2000000 in
theorem bitwise_or (v a b : Nat) (A B : Int) (EA : Hid (A = (a : Int))) (EB : Hid (B = (b : Int))) (hv : v ≤ 8) (ha : a < 256) (hb : b < 256) (w : World) :
   Calls Tryz.prog 63 #[.int .i64 A, .int .i64 B, .int .i64 v, .agg #[.int .i64 0, .int .i64 1, .int .i64 1, .int .i64 1]] w fun e w' => e = .returned (.int .i64 (bwN (fun x y => x ||| y) v a b)) ∧ Below w.heap.size w w' := by
 go_enter Tryz.func63, Tryz.ntmps63
 go_wp2
 go_loopw [9, 10] (fun o i wr => ∃ j : Nat, j ≤ v ∧ i = .int .i64 j ∧ o = .int .i64 (bwN (fun x y => x ||| y) j a b) ∧ Below w.heap.size w wr ∧ wr.cell? ⟨w.heap.size, 0, none⟩ = some (.int .i64 0) ∧ wr.cell? ⟨w.heap.size, 1, none⟩ = some (.int .i64 1) ∧ wr.cell? ⟨w.heap.size, 2, none⟩ = some (.int .i64 1) ∧ wr.cell? ⟨w.heap.size, 3, none⟩ = some (.int .i64 1)) (fun _ i _ => v - (intOf i).toNat)
 case atStart => exact ⟨0, Nat.zero_le _, rfl, rfl, bal (Below.refl _ _) _, by simp [go_sem], by simp [go_sem], by simp [go_sem], by simp [go_sem]⟩
 case round =>
   obtain ⟨j, hj, rfl, rfl, hbl, k0, k1, k2, k3⟩ := hrel
   by_cases hlt : j < v
   · have ht := two_bd (v := (j : Int)) (by omega)
     have hxx : a / 2 ^ j % 2 = 0 ∨ a / 2 ^ j % 2 = 1 := by omega
     have hyy : b / 2 ^ j % 2 = 0 ∨ b / 2 ^ j % 2 = 1 := by omega
     rcases hxx with hx | hx <;> rcases hyy with hy | hy
     · have HA : Hid (∀ w, Calls Tryz.prog 40 #[.int .i64 A, .int .i64 j] w fun e w' => e = .returned (.int .i64 0) ∧ w' = w) := by
         intro w
         have := bit_any a j (by omega) (by omega) (by omega) (by omega) w
         rw [bit_nat, hx] at this
         rw [EA.out]
         exact this
       have HC : Hid (∀ w, Calls Tryz.prog 40 #[.int .i64 B, .int .i64 j] w fun e w' => e = .returned (.int .i64 0) ∧ w' = w) := by
         intro w
         have := bit_any b j (by omega) (by omega) (by omega) (by omega) w
         rw [bit_nat, hy] at this
         rw [EB.out]
         exact this
       have HS : Hid (bwN (fun x y => x ||| y) (j + 1) a b = bwN (fun x y => x ||| y) j a b + 0 * 2 ^ j) := by
         show bwN (fun x y => x ||| y) j a b + (fun x y => x ||| y) (a / 2 ^ j % 2) (b / 2 ^ j % 2) * 2 ^ j = _
         rw [hx, hy]
         rfl
       clear hx hy
       have hbd : bwN (fun x y => x ||| y) j a b < 2 ^ j := by rw [bw_is (fun x y => x ||| y) or_bits j a b]; exact Nat.mod_lt _ (Nat.two_pow_pos j)
       have HT : Hid (two (j : Int) = ((2 ^ j : Nat) : Int)) := two_cast j
       have htt : ((2 ^ j : Nat) : Int) ≤ 256 := by rw [← HT.out]; omega
       have hb0 : (0 : Int) ≤ (bwN (fun x y => x ||| y) j a b : Int) := by omega
       have hb1 : (bwN (fun x y => x ||| y) j a b : Int) < 256 := by omega
       clear hbd htt
       go_wp2_with fail
       go_quiet (first | (go_at_call_of 40 (Value.int IntKind.i64 A); exact Calls.quiet_of_same (HA.out _)) | (go_at_call_of 40 (Value.int IntKind.i64 B); exact Calls.quiet_of_same (HC.out _)) | (go_at_call 14; exact Calls.quiet_of_same (two_any _ (by omega) (by omega) _)))
       go_wp2
       refine ⟨⟨j + 1, by omega, by go_num, ?_, below_drewN hbl nq, k0, k1, k2, k3⟩, by simp [intOf]; omega⟩
       rw [HS.out]
       first
         | (rw [Nat.zero_mul, Nat.add_zero]; done)
         | (rw [HT.out, Nat.one_mul, Int.natCast_add]; done)
     · have HA : Hid (∀ w, Calls Tryz.prog 40 #[.int .i64 A, .int .i64 j] w fun e w' => e = .returned (.int .i64 0) ∧ w' = w) := by
         intro w
         have := bit_any a j (by omega) (by omega) (by omega) (by omega) w
         rw [bit_nat, hx] at this
         rw [EA.out]
         exact this
       have HC : Hid (∀ w, Calls Tryz.prog 40 #[.int .i64 B, .int .i64 j] w fun e w' => e = .returned (.int .i64 1) ∧ w' = w) := by
         intro w
         have := bit_any b j (by omega) (by omega) (by omega) (by omega) w
         rw [bit_nat, hy] at this
         rw [EB.out]
         exact this
       have HS : Hid (bwN (fun x y => x ||| y) (j + 1) a b = bwN (fun x y => x ||| y) j a b + 1 * 2 ^ j) := by
         show bwN (fun x y => x ||| y) j a b + (fun x y => x ||| y) (a / 2 ^ j % 2) (b / 2 ^ j % 2) * 2 ^ j = _
         rw [hx, hy]
         rfl
       clear hx hy
       have hbd : bwN (fun x y => x ||| y) j a b < 2 ^ j := by rw [bw_is (fun x y => x ||| y) or_bits j a b]; exact Nat.mod_lt _ (Nat.two_pow_pos j)
       have HT : Hid (two (j : Int) = ((2 ^ j : Nat) : Int)) := two_cast j
       have htt : ((2 ^ j : Nat) : Int) ≤ 256 := by rw [← HT.out]; omega
       have hb0 : (0 : Int) ≤ (bwN (fun x y => x ||| y) j a b : Int) := by omega
       have hb1 : (bwN (fun x y => x ||| y) j a b : Int) < 256 := by omega
       clear hbd htt
       go_wp2_with fail
       go_quiet (first | (go_at_call_of 40 (Value.int IntKind.i64 A); exact Calls.quiet_of_same (HA.out _)) | (go_at_call_of 40 (Value.int IntKind.i64 B); exact Calls.quiet_of_same (HC.out _)) | (go_at_call 14; exact Calls.quiet_of_same (two_any _ (by omega) (by omega) _)))
       go_wp2
       refine ⟨⟨j + 1, by omega, by go_num, ?_, below_drewN hbl nq, k0, k1, k2, k3⟩, by simp [intOf]; omega⟩
       rw [HS.out]
       first
         | (rw [Nat.zero_mul, Nat.add_zero]; done)
         | (rw [HT.out, Nat.one_mul, Int.natCast_add]; done)
     · have HA : Hid (∀ w, Calls Tryz.prog 40 #[.int .i64 A, .int .i64 j] w fun e w' => e = .returned (.int .i64 1) ∧ w' = w) := by
         intro w
         have := bit_any a j (by omega) (by omega) (by omega) (by omega) w
         rw [bit_nat, hx] at this
         rw [EA.out]
         exact this
       have HC : Hid (∀ w, Calls Tryz.prog 40 #[.int .i64 B, .int .i64 j] w fun e w' => e = .returned (.int .i64 0) ∧ w' = w) := by
         intro w
         have := bit_any b j (by omega) (by omega) (by omega) (by omega) w
         rw [bit_nat, hy] at this
         rw [EB.out]
         exact this
       have HS : Hid (bwN (fun x y => x ||| y) (j + 1) a b = bwN (fun x y => x ||| y) j a b + 1 * 2 ^ j) := by
         show bwN (fun x y => x ||| y) j a b + (fun x y => x ||| y) (a / 2 ^ j % 2) (b / 2 ^ j % 2) * 2 ^ j = _
         rw [hx, hy]
         rfl
       clear hx hy
       have hbd : bwN (fun x y => x ||| y) j a b < 2 ^ j := by rw [bw_is (fun x y => x ||| y) or_bits j a b]; exact Nat.mod_lt _ (Nat.two_pow_pos j)
       have HT : Hid (two (j : Int) = ((2 ^ j : Nat) : Int)) := two_cast j
       have htt : ((2 ^ j : Nat) : Int) ≤ 256 := by rw [← HT.out]; omega
       have hb0 : (0 : Int) ≤ (bwN (fun x y => x ||| y) j a b : Int) := by omega
       have hb1 : (bwN (fun x y => x ||| y) j a b : Int) < 256 := by omega
       clear hbd htt
       go_wp2_with fail
       go_quiet (first | (go_at_call_of 40 (Value.int IntKind.i64 A); exact Calls.quiet_of_same (HA.out _)) | (go_at_call_of 40 (Value.int IntKind.i64 B); exact Calls.quiet_of_same (HC.out _)) | (go_at_call 14; exact Calls.quiet_of_same (two_any _ (by omega) (by omega) _)))
       go_wp2
       refine ⟨⟨j + 1, by omega, by go_num, ?_, below_drewN hbl nq, k0, k1, k2, k3⟩, by simp [intOf]; omega⟩
       rw [HS.out]
       first
         | (rw [Nat.zero_mul, Nat.add_zero]; done)
         | (rw [HT.out, Nat.one_mul, Int.natCast_add]; done)
     · have HA : Hid (∀ w, Calls Tryz.prog 40 #[.int .i64 A, .int .i64 j] w fun e w' => e = .returned (.int .i64 1) ∧ w' = w) := by
         intro w
         have := bit_any a j (by omega) (by omega) (by omega) (by omega) w
         rw [bit_nat, hx] at this
         rw [EA.out]
         exact this
       have HC : Hid (∀ w, Calls Tryz.prog 40 #[.int .i64 B, .int .i64 j] w fun e w' => e = .returned (.int .i64 1) ∧ w' = w) := by
         intro w
         have := bit_any b j (by omega) (by omega) (by omega) (by omega) w
         rw [bit_nat, hy] at this
         rw [EB.out]
         exact this
       have HS : Hid (bwN (fun x y => x ||| y) (j + 1) a b = bwN (fun x y => x ||| y) j a b + 1 * 2 ^ j) := by
         show bwN (fun x y => x ||| y) j a b + (fun x y => x ||| y) (a / 2 ^ j % 2) (b / 2 ^ j % 2) * 2 ^ j = _
         rw [hx, hy]
         rfl
       clear hx hy
       have hbd : bwN (fun x y => x ||| y) j a b < 2 ^ j := by rw [bw_is (fun x y => x ||| y) or_bits j a b]; exact Nat.mod_lt _ (Nat.two_pow_pos j)
       have HT : Hid (two (j : Int) = ((2 ^ j : Nat) : Int)) := two_cast j
       have htt : ((2 ^ j : Nat) : Int) ≤ 256 := by rw [← HT.out]; omega
       have hb0 : (0 : Int) ≤ (bwN (fun x y => x ||| y) j a b : Int) := by omega
       have hb1 : (bwN (fun x y => x ||| y) j a b : Int) < 256 := by omega
       clear hbd htt
       go_wp2_with fail
       go_quiet (first | (go_at_call_of 40 (Value.int IntKind.i64 A); exact Calls.quiet_of_same (HA.out _)) | (go_at_call_of 40 (Value.int IntKind.i64 B); exact Calls.quiet_of_same (HC.out _)) | (go_at_call 14; exact Calls.quiet_of_same (two_any _ (by omega) (by omega) _)))
       go_wp2
       refine ⟨⟨j + 1, by omega, by go_num, ?_, below_drewN hbl nq, k0, k1, k2, k3⟩, by simp [intOf]; omega⟩
       rw [HS.out]
       first
         | (rw [Nat.zero_mul, Nat.add_zero]; done)
         | (rw [HT.out, Nat.one_mul, Int.natCast_add]; done)
   · obtain rfl : j = v := by omega
     go_wp2
     go_ret
     exact ⟨rfl, hbl⟩
set_option maxHeartbeats 2000000 in
theorem bitwise_xor (v a b : Nat) (A B : Int) (EA : Hid (A = (a : Int))) (EB : Hid (B = (b : Int))) (hv : v ≤ 8) (ha : a < 256) (hb : b < 256) (w : World) :
   Calls Tryz.prog 63 #[.int .i64 A, .int .i64 B, .int .i64 v, .agg #[.int .i64 0, .int .i64 1, .int .i64 1, .int .i64 0]] w fun e w' => e = .returned (.int .i64 (bwN (fun x y => x ^^^ y) v a b)) ∧ Below w.heap.size w w' := by
 go_enter Tryz.func63, Tryz.ntmps63
 go_wp2
 go_loopw [9, 10] (fun o i wr => ∃ j : Nat, j ≤ v ∧ i = .int .i64 j ∧ o = .int .i64 (bwN (fun x y => x ^^^ y) j a b) ∧ Below w.heap.size w wr ∧ wr.cell? ⟨w.heap.size, 0, none⟩ = some (.int .i64 0) ∧ wr.cell? ⟨w.heap.size, 1, none⟩ = some (.int .i64 1) ∧ wr.cell? ⟨w.heap.size, 2, none⟩ = some (.int .i64 1) ∧ wr.cell? ⟨w.heap.size, 3, none⟩ = some (.int .i64 0)) (fun _ i _ => v - (intOf i).toNat)
 case atStart => exact ⟨0, Nat.zero_le _, rfl, rfl, bal (Below.refl _ _) _, by simp [go_sem], by simp [go_sem], by simp [go_sem], by simp [go_sem]⟩
 case round =>
   obtain ⟨j, hj, rfl, rfl, hbl, k0, k1, k2, k3⟩ := hrel
   by_cases hlt : j < v
   · have ht := two_bd (v := (j : Int)) (by omega)
     have hxx : a / 2 ^ j % 2 = 0 ∨ a / 2 ^ j % 2 = 1 := by omega
     have hyy : b / 2 ^ j % 2 = 0 ∨ b / 2 ^ j % 2 = 1 := by omega
     rcases hxx with hx | hx <;> rcases hyy with hy | hy
     · have HA : Hid (∀ w, Calls Tryz.prog 40 #[.int .i64 A, .int .i64 j] w fun e w' => e = .returned (.int .i64 0) ∧ w' = w) := by
         intro w
         have := bit_any a j (by omega) (by omega) (by omega) (by omega) w
         rw [bit_nat, hx] at this
         rw [EA.out]
         exact this
       have HC : Hid (∀ w, Calls Tryz.prog 40 #[.int .i64 B, .int .i64 j] w fun e w' => e = .returned (.int .i64 0) ∧ w' = w) := by
         intro w
         have := bit_any b j (by omega) (by omega) (by omega) (by omega) w
         rw [bit_nat, hy] at this
         rw [EB.out]
         exact this
       have HS : Hid (bwN (fun x y => x ^^^ y) (j + 1) a b = bwN (fun x y => x ^^^ y) j a b + 0 * 2 ^ j) := by
         show bwN (fun x y => x ^^^ y) j a b + (fun x y => x ^^^ y) (a / 2 ^ j % 2) (b / 2 ^ j % 2) * 2 ^ j = _
         rw [hx, hy]
         rfl
       clear hx hy
       have hbd : bwN (fun x y => x ^^^ y) j a b < 2 ^ j := by rw [bw_is (fun x y => x ^^^ y) xor_bits j a b]; exact Nat.mod_lt _ (Nat.two_pow_pos j)
       have HT : Hid (two (j : Int) = ((2 ^ j : Nat) : Int)) := two_cast j
       have htt : ((2 ^ j : Nat) : Int) ≤ 256 := by rw [← HT.out]; omega
       have hb0 : (0 : Int) ≤ (bwN (fun x y => x ^^^ y) j a b : Int) := by omega
       have hb1 : (bwN (fun x y => x ^^^ y) j a b : Int) < 256 := by omega
       clear hbd htt
       go_wp2_with fail
       go_quiet (first | (go_at_call_of 40 (Value.int IntKind.i64 A); exact Calls.quiet_of_same (HA.out _)) | (go_at_call_of 40 (Value.int IntKind.i64 B); exact Calls.quiet_of_same (HC.out _)) | (go_at_call 14; exact Calls.quiet_of_same (two_any _ (by omega) (by omega) _)))
       go_wp2
       refine ⟨⟨j + 1, by omega, by go_num, ?_, below_drewN hbl nq, k0, k1, k2, k3⟩, by simp [intOf]; omega⟩
       rw [HS.out]
       first
         | (rw [Nat.zero_mul, Nat.add_zero]; done)
         | (rw [HT.out, Nat.one_mul, Int.natCast_add]; done)
     · have HA : Hid (∀ w, Calls Tryz.prog 40 #[.int .i64 A, .int .i64 j] w fun e w' => e = .returned (.int .i64 0) ∧ w' = w) := by
         intro w
         have := bit_any a j (by omega) (by omega) (by omega) (by omega) w
         rw [bit_nat, hx] at this
         rw [EA.out]
         exact this
       have HC : Hid (∀ w, Calls Tryz.prog 40 #[.int .i64 B, .int .i64 j] w fun e w' => e = .returned (.int .i64 1) ∧ w' = w) := by
         intro w
         have := bit_any b j (by omega) (by omega) (by omega) (by omega) w
         rw [bit_nat, hy] at this
         rw [EB.out]
         exact this
       have HS : Hid (bwN (fun x y => x ^^^ y) (j + 1) a b = bwN (fun x y => x ^^^ y) j a b + 1 * 2 ^ j) := by
         show bwN (fun x y => x ^^^ y) j a b + (fun x y => x ^^^ y) (a / 2 ^ j % 2) (b / 2 ^ j % 2) * 2 ^ j = _
         rw [hx, hy]
         rfl
       clear hx hy
       have hbd : bwN (fun x y => x ^^^ y) j a b < 2 ^ j := by rw [bw_is (fun x y => x ^^^ y) xor_bits j a b]; exact Nat.mod_lt _ (Nat.two_pow_pos j)
       have HT : Hid (two (j : Int) = ((2 ^ j : Nat) : Int)) := two_cast j
       have htt : ((2 ^ j : Nat) : Int) ≤ 256 := by rw [← HT.out]; omega
       have hb0 : (0 : Int) ≤ (bwN (fun x y => x ^^^ y) j a b : Int) := by omega
       have hb1 : (bwN (fun x y => x ^^^ y) j a b : Int) < 256 := by omega
       clear hbd htt
       go_wp2_with fail
       go_quiet (first | (go_at_call_of 40 (Value.int IntKind.i64 A); exact Calls.quiet_of_same (HA.out _)) | (go_at_call_of 40 (Value.int IntKind.i64 B); exact Calls.quiet_of_same (HC.out _)) | (go_at_call 14; exact Calls.quiet_of_same (two_any _ (by omega) (by omega) _)))
       go_wp2
       refine ⟨⟨j + 1, by omega, by go_num, ?_, below_drewN hbl nq, k0, k1, k2, k3⟩, by simp [intOf]; omega⟩
       rw [HS.out]
       first
         | (rw [Nat.zero_mul, Nat.add_zero]; done)
         | (rw [HT.out, Nat.one_mul, Int.natCast_add]; done)
     · have HA : Hid (∀ w, Calls Tryz.prog 40 #[.int .i64 A, .int .i64 j] w fun e w' => e = .returned (.int .i64 1) ∧ w' = w) := by
         intro w
         have := bit_any a j (by omega) (by omega) (by omega) (by omega) w
         rw [bit_nat, hx] at this
         rw [EA.out]
         exact this
       have HC : Hid (∀ w, Calls Tryz.prog 40 #[.int .i64 B, .int .i64 j] w fun e w' => e = .returned (.int .i64 0) ∧ w' = w) := by
         intro w
         have := bit_any b j (by omega) (by omega) (by omega) (by omega) w
         rw [bit_nat, hy] at this
         rw [EB.out]
         exact this
       have HS : Hid (bwN (fun x y => x ^^^ y) (j + 1) a b = bwN (fun x y => x ^^^ y) j a b + 1 * 2 ^ j) := by
         show bwN (fun x y => x ^^^ y) j a b + (fun x y => x ^^^ y) (a / 2 ^ j % 2) (b / 2 ^ j % 2) * 2 ^ j = _
         rw [hx, hy]
         rfl
       clear hx hy
       have hbd : bwN (fun x y => x ^^^ y) j a b < 2 ^ j := by rw [bw_is (fun x y => x ^^^ y) xor_bits j a b]; exact Nat.mod_lt _ (Nat.two_pow_pos j)
       have HT : Hid (two (j : Int) = ((2 ^ j : Nat) : Int)) := two_cast j
       have htt : ((2 ^ j : Nat) : Int) ≤ 256 := by rw [← HT.out]; omega
       have hb0 : (0 : Int) ≤ (bwN (fun x y => x ^^^ y) j a b : Int) := by omega
       have hb1 : (bwN (fun x y => x ^^^ y) j a b : Int) < 256 := by omega
       clear hbd htt
       go_wp2_with fail
       go_quiet (first | (go_at_call_of 40 (Value.int IntKind.i64 A); exact Calls.quiet_of_same (HA.out _)) | (go_at_call_of 40 (Value.int IntKind.i64 B); exact Calls.quiet_of_same (HC.out _)) | (go_at_call 14; exact Calls.quiet_of_same (two_any _ (by omega) (by omega) _)))
       go_wp2
       refine ⟨⟨j + 1, by omega, by go_num, ?_, below_drewN hbl nq, k0, k1, k2, k3⟩, by simp [intOf]; omega⟩
       rw [HS.out]
       first
         | (rw [Nat.zero_mul, Nat.add_zero]; done)
         | (rw [HT.out, Nat.one_mul, Int.natCast_add]; done)
     · have HA : Hid (∀ w, Calls Tryz.prog 40 #[.int .i64 A, .int .i64 j] w fun e w' => e = .returned (.int .i64 1) ∧ w' = w) := by
         intro w
         have := bit_any a j (by omega) (by omega) (by omega) (by omega) w
         rw [bit_nat, hx] at this
         rw [EA.out]
         exact this
       have HC : Hid (∀ w, Calls Tryz.prog 40 #[.int .i64 B, .int .i64 j] w fun e w' => e = .returned (.int .i64 1) ∧ w' = w) := by
         intro w
         have := bit_any b j (by omega) (by omega) (by omega) (by omega) w
         rw [bit_nat, hy] at this
         rw [EB.out]
         exact this
       have HS : Hid (bwN (fun x y => x ^^^ y) (j + 1) a b = bwN (fun x y => x ^^^ y) j a b + 0 * 2 ^ j) := by
         show bwN (fun x y => x ^^^ y) j a b + (fun x y => x ^^^ y) (a / 2 ^ j % 2) (b / 2 ^ j % 2) * 2 ^ j = _
         rw [hx, hy]
         rfl
       clear hx hy
       have hbd : bwN (fun x y => x ^^^ y) j a b < 2 ^ j := by rw [bw_is (fun x y => x ^^^ y) xor_bits j a b]; exact Nat.mod_lt _ (Nat.two_pow_pos j)
       have HT : Hid (two (j : Int) = ((2 ^ j : Nat) : Int)) := two_cast j
       have htt : ((2 ^ j : Nat) : Int) ≤ 256 := by rw [← HT.out]; omega
       have hb0 : (0 : Int) ≤ (bwN (fun x y => x ^^^ y) j a b : Int) := by omega
       have hb1 : (bwN (fun x y => x ^^^ y) j a b : Int) < 256 := by omega
       clear hbd htt
       go_wp2_with fail
       go_quiet (first | (go_at_call_of 40 (Value.int IntKind.i64 A); exact Calls.quiet_of_same (HA.out _)) | (go_at_call_of 40 (Value.int IntKind.i64 B); exact Calls.quiet_of_same (HC.out _)) | (go_at_call 14; exact Calls.quiet_of_same (two_any _ (by omega) (by omega) _)))
       go_wp2
       refine ⟨⟨j + 1, by omega, by go_num, ?_, below_drewN hbl nq, k0, k1, k2, k3⟩, by simp [intOf]; omega⟩
       rw [HS.out]
       first
         | (rw [Nat.zero_mul, Nat.add_zero]; done)
         | (rw [HT.out, Nat.one_mul, Int.natCast_add]; done)
   · obtain rfl : j = v := by omega
     go_wp2
     go_ret
     exact ⟨rfl, hbl⟩
end Go.Proofs.YtabnimgpednhjabGreat
