import Derived.Test.YtabnimgpednhjabGreatDuM
import Derived.Deep.RegionHeld3
import Derived.Deep.CutRange
import Derived.Lib.AppendZerosOnto
namespace Go.Proofs.YtabnimgpednhjabGreat.Gg
open Go.RowKit
set_option maxRecDepth 100000
def numW (ps : Gr) (bs : List Bool) (l : List Int) : Nat := numB (fun i => sem ps bs (l.getD i 0)) l.length
theorem numW_lt (ps : Gr) (bs : List Bool) (l : List Int) : numW ps bs l < 2 ^ l.length := numB_lt _ _
theorem Ext.num {n k : Nat} {ps qs : Gr} (h : Ext n k ps qs) {bs : List Bool} (hb : bs.length = n) {l : List Int} (hl : Vals n ps l) : numW qs bs l = numW ps bs l :=
 numB_congr fun _ hi => h.same bs hb _ (getD_val hl hi)
theorem getD_past {l : List Int} {i : Nat} (h : l.length ≤ i) : l.getD i 0 = 0 := by rw [List.getD, List.getElem?_eq_none h]; rfl
theorem sem_past {ps : Gr} {bs : List Bool} {l : List Int} {i : Nat} (h : l.length ≤ i) : sem ps bs (l.getD i 0) = false := by rw [getD_past h]; exact sem_no _ _
theorem numW_sems {ps : Gr} {bs : List Bool} {l : List Int} {k : Nat} {f : Nat → Bool} (h : sems ps bs l = (List.range k).map f) : numW ps bs l = numB f k := by
 have hl : l.length = k := by have := congrArg List.length h; simpa [sems] using this
 unfold numW
 rw [hl]
 refine numB_congr fun i hi => ?_
 rw [← sems_at, h]
 simp [List.getD, hi]
theorem numW_map {ps : Gr} {bs : List Bool} {k : Nat} (f : Nat → Int) : numW ps bs ((List.range k).map f) = numB (fun i => sem ps bs (f i)) k := numW_sems (by unfold sems; rw [List.map_map]; rfl)
theorem numB_bit (f : Nat → Bool) (k i : Nat) : (numB f k).testBit i = (decide (i < k) && f i) := by
 induction k with
 | zero => simp [numB]
 | succ k ih =>
   have hlt := numB_lt f k
   rw [numB]
   cases hf : f k
   · simp only [Bool.false_eq_true, if_false, Nat.add_zero]
     rw [ih]
     by_cases e : i = k
     · subst e; simp [hf]
     · have : decide (i < k + 1) = decide (i < k) := by simp; omega
       rw [this]
   · simp only [if_true]
     rw [Nat.add_comm]
     by_cases e : i = k
     · subst e
       rw [Nat.testBit_two_pow_add_eq, Nat.testBit_lt_two_pow hlt, hf]
       simp
     · by_cases h2 : i < k
       · rw [Nat.testBit_two_pow_add_gt h2, ih]
         simp [h2]; omega
       · rw [Nat.testBit_lt_two_pow (Nat.lt_of_lt_of_le (m := 2 ^ (k + 1)) (by rw [Nat.pow_succ]; omega) (Nat.pow_le_pow_right (by omega) (by omega)))]
         have : decide (i < k + 1) = false := by simp; omega
         rw [this]; rfl
theorem numB_and (f g : Nat → Bool) (k : Nat) : numB (fun i => f i && g i) k = numB f k &&& numB g k := by
 apply Nat.eq_of_testBit_eq
 intro i
 rw [Nat.testBit_and, numB_bit, numB_bit, numB_bit]
 cases decide (i < k) <;> simp
theorem numB_or (f g : Nat → Bool) (k : Nat) : numB (fun i => f i || g i) k = numB f k ||| numB g k := by
 apply Nat.eq_of_testBit_eq
 intro i
 rw [Nat.testBit_or, numB_bit, numB_bit, numB_bit]
 cases decide (i < k) <;> simp
theorem numB_xor (f g : Nat → Bool) (k : Nat) : numB (fun i => f i != g i) k = numB f k ^^^ numB g k := by
 apply Nat.eq_of_testBit_eq
 intro i
 rw [Nat.testBit_xor, numB_bit, numB_bit, numB_bit]
 cases decide (i < k) <;> cases f i <;> cases g i <;> rfl
theorem numB_of {x k : Nat} (h : x < 2 ^ k) : numB (fun i => x.testBit i) k = x := by
 apply Nat.eq_of_testBit_eq
 intro i
 rw [numB_bit]
 by_cases hi : i < k
 · simp [hi]
 · rw [Nat.testBit_lt_two_pow (Nat.lt_of_lt_of_le h (Nat.pow_le_pow_right (by omega) (by omega)))]
   simp
theorem numW_bit {ps : Gr} {bs : List Bool} {l : List Int} {x i : Nat} (h : numW ps bs l = x) (hi : i < l.length) : sem ps bs (l.getD i 0) = x.testBit i := by
 rw [← h, numW, numB_bit]
 simp [hi]
structure DoesW (n k : Nat) (ps : Gr) (len : Nat) (r : List Int × Gr) (F : List Bool → Nat) : Prop where
 ext : Ext n k ps r.2
 vals : Vals n r.2 r.1
 len : r.1.length = len
 num : ∀ bs : List Bool, bs.length = n → numW r.2 bs r.1 = F bs
theorem DoesL.word {n k : Nat} {ps : Gr} {len : Nat} {r : List Int × Gr} {f : List Bool → Nat → Bool} (h : DoesL n k ps r (fun bs => (List.range len).map (f bs))) (hl : r.1.length = len) : DoesW n k ps len r (fun bs => numB (f bs) len) :=
 ⟨h.ext, h.vals, hl, fun bs hb => numW_sems (h.tells bs hb)⟩
theorem DoesW.more {n k j : Nat} {ps : Gr} {len : Nat} {r : List Int × Gr} {F : List Bool → Nat} (h : DoesW n k ps len r F) (hk : k ≤ j) : DoesW n j ps len r F := ⟨h.ext.more hk, h.vals, h.len, h.num⟩
theorem DoesW.to {n k : Nat} {ps : Gr} {len : Nat} {r : List Int × Gr} {F G : List Bool → Nat} (h : DoesW n k ps len r F) (e : ∀ bs : List Bool, bs.length = n → F bs = G bs) : DoesW n k ps len r G := ⟨h.ext, h.vals, h.len, fun bs hb => (h.num bs hb).trans (e bs hb)⟩
theorem sem_atL {ps : Gr} {bs : List Bool} {xs : List Int} {i d : Nat} (h : i < xs.length) : sem ps bs (atL xs ((i : Int) - (d : Int))) = if i < d then false else sem ps bs (xs.getD (i - d) 0) := by
 unfold atL
 by_cases e : i < d
 · rw [if_pos e, if_neg (by omega)]; exact sem_no _ _
 · rw [if_neg e, if_pos (by omega)]
   congr 2
   omega
theorem sem_atL' {ps : Gr} {bs : List Bool} {xs : List Int} {i d : Nat} : sem ps bs (atL xs ((i : Int) + (d : Int))) = sem ps bs (xs.getD (i + d) 0) := by
 unfold atL
 by_cases e : i + d < xs.length
 · rw [if_pos (by omega)]
   congr 2
 · rw [if_neg (by omega), getD_past (by omega)]
theorem sumL_does {n : Nat} {ps : Gr} (hg : chkE n ps = 0) {xs ys : List Int} {c : Int} (hly : ys.length = xs.length) (hn : xs.length ≤ 8) (hl : ps.length + 200 < 1000000) (hvx : Vals n ps xs) (hvy : Vals n ps ys) (hc : Val n ps c) :
   DoesW n 72 ps xs.length ((sumL n xs ys c ps).1, (sumL n xs ys c ps).2.2) (fun bs => (numW ps bs xs + numW ps bs ys + (if sem ps bs c then 1 else 0)) % 2 ^ xs.length) := by
 obtain ⟨h1, h2, h3, h4⟩ := sum_does (len := xs.length) hg (c := c) (Nat.le_refl _) (by omega) (by omega) hvx hvy hc xs.length (Nat.le_refl _)
 refine ⟨h1.more (by omega), h2, sumL_len _ _ _ _ _, fun bs hb => ?_⟩
 rw [show numW (sumL n xs ys c ps).2.2 bs (sumL n xs ys c ps).1 = _ from numW_sems (h4 bs hb).1, sum_mod]
 unfold numW
 rw [hly]
theorem num_turn {ps : Gr} {bs : List Bool} {l : List Int} : numB (fun i => sem ps bs ((l.map turn).getD i 0)) l.length = numB (fun i => !sem ps bs (l.getD i 0)) l.length :=
 numB_congr fun i hi => by
   have e : (l.map turn).getD i 0 = turn (l.getD i 0) := by
     rw [List.getD, List.getD, List.getElem?_map, List.getElem?_eq_getElem hi]; rfl
   rw [e, sem_turn]
theorem diffL_does {n : Nat} {ps : Gr} (hg : chkE n ps = 0) {xs ys : List Int} (hly : ys.length = xs.length) (hn : xs.length ≤ 8) (hl : ps.length + 200 < 1000000) (hvx : Vals n ps xs) (hvy : Vals n ps ys) :
   DoesW n 72 ps xs.length ((sumL n xs (ys.map turn) 1 ps).1, (sumL n xs (ys.map turn) 1 ps).2.2) (fun bs => (numW ps bs xs + 2 ^ xs.length - numW ps bs ys) % 2 ^ xs.length) ∧
     Val n (sumL n xs (ys.map turn) 1 ps).2.2 (sumL n xs (ys.map turn) 1 ps).2.1 ∧ ∀ bs : List Bool, bs.length = n → (sem (sumL n xs (ys.map turn) 1 ps).2.2 bs (sumL n xs (ys.map turn) 1 ps).2.1 = true ↔ numW ps bs ys ≤ numW ps bs xs) := by
 obtain ⟨h1, h2, h3, h4⟩ := sum_does (len := xs.length) hg (xs := xs) (ys := ys.map turn) (c := 1) (Nat.le_refl _) (by simp; omega) (by omega) hvx hvy.turns (val_yes _ _) xs.length (Nat.le_refl _)
 have key : ∀ bs : List Bool, ∀ i, i < xs.length → sem ps bs ((ys.map turn).getD i 0) = !sem ps bs (ys.getD i 0) := fun bs i hi => by
   have e : (ys.map turn).getD i 0 = turn (ys.getD i 0) := by
     rw [List.getD, List.getD, List.getElem?_map, List.getElem?_eq_getElem (show i < ys.length by omega)]; rfl
   rw [e, sem_turn]
 have kc : ∀ bs : List Bool, ∀ i, i ≤ xs.length → carB (fun i => sem ps bs (xs.getD i 0)) (fun i => sem ps bs ((ys.map turn).getD i 0)) (sem ps bs 1) i = carB (fun i => sem ps bs (xs.getD i 0)) (fun i => !sem ps bs (ys.getD i 0)) true i := fun bs i => by
   induction i with
   | zero => intro _; rw [carB, carB, sem_yes]
   | succ i ih => intro hi; rw [carB, carB, ih (by omega), key bs i (by omega)]
 refine ⟨⟨h1.more (by omega), h2, sumL_len _ _ _ _ _, fun bs hb => ?_⟩, h3, fun bs hb => ?_⟩
 · rw [show numW (sumL n xs (ys.map turn) 1 ps).2.2 bs (sumL n xs (ys.map turn) 1 ps).1 = _ from numW_sems (h4 bs hb).1]
   rw [numB_congr (g := fun i => (sem ps bs (xs.getD i 0) != !sem ps bs (ys.getD i 0)) != carB (fun i => sem ps bs (xs.getD i 0)) (fun i => !sem ps bs (ys.getD i 0)) true i) (fun i hi => by rw [key bs i hi, kc bs i (by omega)])]
   rw [(diff_num (fun i => sem ps bs (xs.getD i 0)) (fun i => sem ps bs (ys.getD i 0)) xs.length).1]
   unfold numW
   rw [hly]
 · rw [show sem (sumL n xs (ys.map turn) 1 ps).2.2 bs (sumL n xs (ys.map turn) 1 ps).2.1 = _ from (h4 bs hb).2, kc bs _ (Nat.le_refl _), (diff_num (fun i => sem ps bs (xs.getD i 0)) (fun i => sem ps bs (ys.getD i 0)) xs.length).2]
   unfold numW
   rw [hly]
theorem prod_does {n : Nat} {ps : Gr} (hg : chkE n ps = 0) {xs ys : List Int} (hn : xs.length ≤ 8) (hny : ys.length ≤ 8) (hl : ps.length + 1000 < 1000000) (hvx : Vals n ps xs) (hvy : Vals n ps ys) :
   DoesW n 640 ps xs.length (prodL n xs ys ps ys.length) (fun bs => numW ps bs xs * numW ps bs ys % 2 ^ xs.length) := by
 have hk := prod_ok hg hn hny hl hvx hvy
 obtain ⟨e1, e2, e3⟩ := hk ys.length (Nat.le_refl _)
 refine ⟨e1.more (by omega), e2, e3, fun bs hb => ?_⟩
 have main := prod_num (T := fun k i => sem (prodL n xs ys ps k).2 bs ((prodL n xs ys ps k).1.getD i 0)) (f := fun i => sem ps bs (xs.getD i 0)) (g := fun i => sem ps bs (ys.getD i 0)) (k := xs.length) (n := ys.length) ?_ ?_ ys.length (Nat.le_refl _)
 · unfold numW
   rw [e3]
   exact main
 · refine numB_none fun i hi => ?_
   rw [show (prodL n xs ys ps 0).1 = bitsC 0 xs.length from rfl, bitsC_no]
   rw [show (List.replicate xs.length (0 : Int)).getD i 0 = 0 by simp [List.getD, hi]]
   exact sem_no _ _
 · intro j hj
   obtain ⟨i1, i2, i3⟩ := hk j (by omega)
   have l1 := i1.len.2
   have vy := getD_val hvy hj
   have hr : DoesL n (1 * xs.length) (prodL n xs ys ps j).2 (rowL n xs (ys.getD j 0) j (prodL n xs ys ps j).2) _ := row_does (len := xs.length) (d := j) i1.good (by omega) (i1.vals hvx) (i1.val vy) xs.length (Nat.le_refl _)
   have l2 := hr.ext.len.2
   have hs := sumL_does hr.ext.good (xs := (prodL n xs ys ps j).1) (ys := (rowL n xs (ys.getD j 0) j (prodL n xs ys ps j).2).1) (c := 0) (by rw [rowL_len, i3]) (by omega) (by omega) (hr.ext.vals i2) hr.vals (val_no _ _)
   have hnum := hs.num bs hb
   simp only [sem_no, Bool.false_eq_true, if_false, Nat.add_zero, i3] at hnum
   have hrow : numW (rowL n xs (ys.getD j 0) j (prodL n xs ys ps j).2).2 bs (rowL n xs (ys.getD j 0) j (prodL n xs ys ps j).2).1 = (if sem ps bs (ys.getD j 0) then numW ps bs xs * 2 ^ j else 0) % 2 ^ xs.length := by
     rw [numW_sems (hr.tells bs hb)]
     refine Eq.trans ?_ (row_num (fun i => sem ps bs (xs.getD i 0)) (sem ps bs (ys.getD j 0)) j xs.length)
     refine numB_congr fun i hi => ?_
     rw [i1.same bs hb _ vy, i1.same bs hb _ (atL_val hvx _), sem_atL hi]
   rw [hrow, hr.ext.num hb i2] at hnum
   have e4 : (prodL n xs ys ps (j + 1)).1.length = xs.length := (hk (j + 1) (by omega)).2.2
   have t1 : numW (prodL n xs ys ps (j + 1)).2 bs (prodL n xs ys ps (j + 1)).1 = _ := hnum
   unfold numW at t1
   rw [e4, i3] at t1
   exact t1
theorem shift_up {n : Nat} {ps : Gr} (hg : chkE n ps = 0) {xs ys : List Int} (hn : xs.length ≤ 8) (hny : ys.length ≤ 8) (hl : ps.length + 1000 < 1000000) (hvx : Vals n ps xs) (hvy : Vals n ps ys) (bs : List Bool) (hb : bs.length = n) :
   ∀ k, k ≤ ys.length → numW (shiftL n xs ys 1 ps k).2 bs (shiftL n xs ys 1 ps k).1 = numW ps bs xs * 2 ^ numB (fun i => sem ps bs (ys.getD i 0)) k % 2 ^ xs.length := by
 intro k
 induction k with
 | zero => intro _; rw [numB, Nat.pow_zero, Nat.mul_one, Nat.mod_eq_of_lt (numW_lt _ _ _)]; rfl
 | succ k ih =>
   intro hk
   obtain ⟨i1, i2, i3⟩ := shift_ok (way := 1) hg hn hny hl hvx hvy k (by omega)
   have l1 := i1.len.2
   have vy := getD_val hvy (show k < ys.length by omega)
   have hr : DoesL n (3 * (shiftL n xs ys 1 ps k).1.length) (shiftL n xs ys 1 ps k).2 (moveL n (shiftL n xs ys 1 ps k).1 (ys.getD k 0) (1 * 2 ^ k) (shiftL n xs ys 1 ps k).2) _ := move_does (d := 1 * 2 ^ k) i1.good (by omega) i2 (i1.val vy) _ (Nat.le_refl _)
   rw [show shiftL n xs ys 1 ps (k + 1) = moveL n (shiftL n xs ys 1 ps k).1 (ys.getD k 0) (1 * 2 ^ k) (shiftL n xs ys 1 ps k).2 from rfl, numW_sems (hr.tells bs hb)]
   have hc : ((1 : Int) * 2 ^ k) = ((2 ^ k : Nat) : Int) := by push_cast; omega
   have ih' := ih (by omega)
   rw [numB]
   rw [i1.same bs hb _ vy]
   cases hq : sem ps bs (ys.getD k 0)
   · simp only [Bool.false_eq_true, if_false, Nat.add_zero]
     rw [← ih']; rfl
   · simp only [if_true]
     rw [numB_congr (g := fun i => if i < 2 ^ k then false else sem (shiftL n xs ys 1 ps k).2 bs ((shiftL n xs ys 1 ps k).1.getD (i - 2 ^ k) 0)) (fun i hi => by rw [hc]; exact sem_atL hi), up_num (fun i => sem (shiftL n xs ys 1 ps k).2 bs ((shiftL n xs ys 1 ps k).1.getD i 0))]
     rw [show numB (fun i => sem (shiftL n xs ys 1 ps k).2 bs ((shiftL n xs ys 1 ps k).1.getD i 0)) (shiftL n xs ys 1 ps k).1.length = numW (shiftL n xs ys 1 ps k).2 bs (shiftL n xs ys 1 ps k).1 from rfl, ih', i3, Nat.pow_add, ← Nat.mul_assoc]
     exact Nat.mod_mul_mod _ _ _
theorem shift_down {n : Nat} {ps : Gr} (hg : chkE n ps = 0) {xs ys : List Int} (hn : xs.length ≤ 8) (hny : ys.length ≤ 8) (hl : ps.length + 1000 < 1000000) (hvx : Vals n ps xs) (hvy : Vals n ps ys) (bs : List Bool) (hb : bs.length = n) :
   ∀ k, k ≤ ys.length → numW (shiftL n xs ys (-1) ps k).2 bs (shiftL n xs ys (-1) ps k).1 = numW ps bs xs / 2 ^ numB (fun i => sem ps bs (ys.getD i 0)) k := by
 intro k
 induction k with
 | zero => intro _; rw [numB, Nat.pow_zero, Nat.div_one]; rfl
 | succ k ih =>
   intro hk
   obtain ⟨i1, i2, i3⟩ := shift_ok (way := -1) hg hn hny hl hvx hvy k (by omega)
   have l1 := i1.len.2
   have vy := getD_val hvy (show k < ys.length by omega)
   have hr : DoesL n (3 * (shiftL n xs ys (-1) ps k).1.length) (shiftL n xs ys (-1) ps k).2 (moveL n (shiftL n xs ys (-1) ps k).1 (ys.getD k 0) (-1 * 2 ^ k) (shiftL n xs ys (-1) ps k).2) _ := move_does (d := -1 * 2 ^ k) i1.good (by omega) i2 (i1.val vy) _ (Nat.le_refl _)
   rw [show shiftL n xs ys (-1) ps (k + 1) = moveL n (shiftL n xs ys (-1) ps k).1 (ys.getD k 0) (-1 * 2 ^ k) (shiftL n xs ys (-1) ps k).2 from rfl, numW_sems (hr.tells bs hb)]
   have hc : ∀ i : Nat, ((i : Int) - (-1 : Int) * 2 ^ k) = (i : Int) + ((2 ^ k : Nat) : Int) := fun i => by push_cast; omega
   have ih' := ih (by omega)
   rw [numB]
   rw [i1.same bs hb _ vy]
   cases hq : sem ps bs (ys.getD k 0)
   · simp only [Bool.false_eq_true, if_false, Nat.add_zero]
     rw [← ih']; rfl
   · simp only [if_true]
     rw [numB_congr (g := fun i => sem (shiftL n xs ys (-1) ps k).2 bs ((shiftL n xs ys (-1) ps k).1.getD (i + 2 ^ k) 0)) (fun i hi => by rw [hc]; exact sem_atL'), down_num (fun i => sem (shiftL n xs ys (-1) ps k).2 bs ((shiftL n xs ys (-1) ps k).1.getD i 0)) _ _ (fun i hi => sem_past hi)]
     rw [show numB (fun i => sem (shiftL n xs ys (-1) ps k).2 bs ((shiftL n xs ys (-1) ps k).1.getD i 0)) (shiftL n xs ys (-1) ps k).1.length = numW (shiftL n xs ys (-1) ps k).2 bs (shiftL n xs ys (-1) ps k).1 from rfl, ih', Nat.pow_add, Nat.div_div_eq_div_mul]
theorem shift_does {n : Nat} {ps : Gr} (hg : chkE n ps = 0) {xs ys : List Int} {way : Int} (hway : way = 1 ∨ way = -1) (hn : xs.length ≤ 8) (hny : ys.length ≤ 8) (hl : ps.length + 1000 < 1000000) (hvx : Vals n ps xs) (hvy : Vals n ps ys) :
   DoesW n 192 ps xs.length (shiftL n xs ys way ps ys.length) (fun bs => if way = 1 then numW ps bs xs * 2 ^ numW ps bs ys % 2 ^ xs.length else numW ps bs xs / 2 ^ numW ps bs ys) := by
 obtain ⟨e1, e2, e3⟩ := shift_ok (way := way) hg hn hny hl hvx hvy ys.length (Nat.le_refl _)
 refine ⟨e1.more (by omega), e2, e3, fun bs hb => ?_⟩
 rcases hway with rfl | rfl
 · rw [if_pos rfl]; exact shift_up hg hn hny hl hvx hvy bs hb _ (Nat.le_refl _)
 · rw [if_neg (by decide)]; exact shift_down hg hn hny hl hvx hvy bs hb _ (Nat.le_refl _)
end Go.Proofs.YtabnimgpednhjabGreat.Gg

namespace Go.Proofs.YtabnimgpednhjabGreat.Gg
open Go.RowKit
set_option maxRecDepth 100000
theorem num_not {ps : Gr} {bs : List Bool} {l : List Int} : numW ps bs (l.map turn) = 2 ^ l.length - 1 - numW ps bs l := by
 have h := not_num (fun i => sem ps bs (l.getD i 0)) l.length
 unfold numW
 rw [List.length_map, num_turn]
 omega
theorem num_one {ps : Gr} {bs : List Bool} {x : Int} : numW ps bs [x] = if sem ps bs x then 1 else 0 := by
 show 0 + (if sem ps bs x then 2 ^ 0 else 0) = _
 rw [Nat.zero_add]
theorem num_join {ps : Gr} {bs : List Bool} {ys xs : List Int} : numW ps bs (ys ++ xs) = numW ps bs xs * 2 ^ ys.length + numW ps bs ys := by
 unfold numW
 rw [List.length_append, numB_add, Nat.add_comm, Nat.mul_comm]
 congr 1
 · congr 1
   refine numB_congr fun i hi => ?_
   rw [List.getD, List.getElem?_append_right (by omega), Nat.add_sub_cancel]; rfl
 · refine numB_congr fun i hi => ?_
   rw [List.getD, List.getElem?_append_left hi]; rfl
theorem num_cut {ps : Gr} {bs : List Bool} {l : List Int} {a v : Nat} (h : a + v ≤ l.length) : numW ps bs ((l.drop a).take v) = numW ps bs l / 2 ^ a % 2 ^ v := by
 unfold numW
 have hlen : ((l.drop a).take v).length = v := by simp; omega
 rw [hlen]
 have h1 := numB_mod (fun i => sem ps bs (l.getD i 0)) h
 have h2 := numB_add (fun i => sem ps bs (l.getD i 0)) a v
 have h3 : numB (fun i => sem ps bs (((l.drop a).take v).getD i 0)) v = numB (fun i => sem ps bs (l.getD (i + a) 0)) v := numB_congr fun i hi => by
   rw [List.getD, List.getElem?_take_of_lt hi, List.getElem?_drop, Nat.add_comm]; rfl
 rw [h3, ← Nat.mod_mul_right_div_self, ← Nat.pow_add, h1, h2, Nat.add_mul_div_left _ _ (Nat.two_pow_pos a), Nat.div_eq_of_lt (numB_lt _ _), Nat.zero_add]
theorem num_wide {ps : Gr} {bs : List Bool} {l : List Int} {v : Nat} (h : l.length ≤ v) : numW ps bs ((List.range v).map fun k : Nat => atL l (k : Int)) = numW ps bs l := by
 rw [numW_map]
 obtain ⟨d, rfl⟩ : ∃ d, v = l.length + d := ⟨v - l.length, by omega⟩
 have hf : ∀ i : Nat, sem ps bs (atL l (i : Int)) = sem ps bs (l.getD i 0) := fun i => by
   have := @sem_atL' ps bs l i 0
   simpa using this
 rw [numB_congr (g := fun i => sem ps bs (l.getD i 0)) (fun i _ => hf i), numB_add, numB_none (f := fun i => sem ps bs (l.getD (i + l.length) 0)) (fun i _ => sem_past (by omega)), Nat.mul_zero, Nat.add_zero]
 rfl
theorem numB_all {f : Nat → Bool} {k : Nat} (h : ∀ i, i < k → f i = true) : numB f k + 1 = 2 ^ k := by
 have := not_num f k
 rw [numB_none (f := fun i => !f i) (fun i hi => by rw [h i hi]; rfl)] at this
 omega
theorem num_top {ps : Gr} {bs : List Bool} {l : List Int} {m : Nat} (h : l.length = m + 1) : numW ps bs l = numB (fun i => sem ps bs (l.getD i 0)) m + (if sem ps bs (l.getD m 0) then 2 ^ m else 0) := by
 unfold numW
 rw [h]; rfl
theorem num_up {ps : Gr} {bs : List Bool} {l : List Int} {m : Nat} (h : l.length = m + 1) : numW ps bs ((List.range l.length).map (upF l)) + (if numW ps bs l < 2 ^ m then 0 else 2 ^ (m + 1)) = numW ps bs l + 2 ^ m := by
 rw [numW_map, num_top h, h, numB]
 have e1 : numB (fun i => sem ps bs (upF l i)) m = numB (fun i => sem ps bs (l.getD i 0)) m := numB_congr fun i hi => by unfold upF; rw [if_neg (by omega)]
 have e2 : sem ps bs (upF l m) = !sem ps bs (l.getD m 0) := by unfold upF; rw [if_pos h.symm, sem_turn]
 have hlt := numB_lt (fun i => sem ps bs (l.getD i 0)) m
 rw [e1, e2, Nat.pow_succ]
 generalize numB (fun i => sem ps bs (l.getD i 0)) m = A at *
 cases sem ps bs (l.getD m 0)
 · simp only [Bool.not_false, if_true, Bool.false_eq_true, if_false, Nat.add_zero]
   rw [if_pos hlt]; rfl
 · simp only [Bool.not_true, Bool.false_eq_true, if_false, if_true, Nat.add_zero]
   rw [if_neg (by omega)]
   omega
theorem num_spread {ps : Gr} {bs : List Bool} {l : List Int} {m v : Nat} (h : l.length = m + 1) (hv : m + 1 ≤ v) : numW ps bs ((List.range v).map (spreadF l)) = numW ps bs l + (if numW ps bs l < 2 ^ m then 0 else 2 ^ v - 2 ^ (m + 1)) := by
 rw [numW_map]
 obtain ⟨d, rfl⟩ : ∃ d, v = m + 1 + d := ⟨v - (m + 1), by omega⟩
 rw [numB_add]
 have e1 : numB (fun i => sem ps bs (spreadF l i)) (m + 1) = numW ps bs l := by
   unfold numW
   rw [h]
   exact numB_congr fun i hi => by unfold spreadF; rw [Nat.min_eq_left (by omega)]
 have e2 : ∀ i, sem ps bs (spreadF l (i + (m + 1))) = sem ps bs (l.getD m 0) := fun i => by unfold spreadF; rw [Nat.min_eq_right (by omega), h]; rfl
 rw [e1, numB_congr (g := fun _ => sem ps bs (l.getD m 0)) (fun i _ => e2 i), num_top h]
 have hlt := numB_lt (fun i => sem ps bs (l.getD i 0)) m
 cases sem ps bs (l.getD m 0)
 · rw [numB_none (f := fun _ => false) (fun _ _ => rfl)]
   simp only [Bool.false_eq_true, if_false, Nat.add_zero, Nat.mul_zero]
   rw [if_pos hlt]; rfl
 · have h1 := numB_all (f := fun _ => true) (k := d) (fun _ _ => rfl)
   simp only [if_true]
   rw [if_neg (by omega), show numB (fun _ => true) d = 2 ^ d - 1 by omega, Nat.mul_sub, Nat.mul_one, ← Nat.pow_add]
theorem num_const {ps : Gr} {bs : List Bool} {x : Int} {v : Nat} (h0 : 0 ≤ x) (h1 : x < 2 ^ v) : ((numW ps bs (bitsC x v) : Nat) : Int) = x := by
 unfold bitsC
 have hlt : x.toNat < 2 ^ v := by
   have e : ((2 ^ v : Nat) : Int) = 2 ^ v := by push_cast; rfl
   omega
 rw [numW_map, numB_congr (g := fun i => x.toNat.testBit i) (fun i _ => ?_), numB_of hlt]
 · omega
 · clear hlt
   have hx : x = (x.toNat : Int) := by omega
   generalize x.toNat = m at hx
   subst hx
   rw [Nat.testBit_eq_decide_div_mod_eq]
   have e : ((m : Int) / 2 ^ i % 2) = ((m / 2 ^ i % 2 : Nat) : Int) := by push_cast; rfl
   rw [e]
   rcases Nat.mod_two_eq_zero_or_one (m / 2 ^ i) with h | h <;> rw [h]
   · exact sem_no _ _
   · exact sem_yes _ _
theorem vals_const {n : Nat} {ps : Gr} {x : Int} {v : Nat} : Vals n ps (bitsC x v) := fun y hy => by
 unfold bitsC at hy
 obtain ⟨i, _, rfl⟩ := List.mem_map.1 hy
 exact ⟨by omega, by omega⟩
theorem zip_num {n c : Nat} {ps : Gr} (hg : chkE n ps = 0) (g : Int → Int → Gr → Int × Gr) (f : Bool → Bool → Bool) {lim : Nat} (h : ∀ {qs : Gr}, chkE n qs = 0 → qs.length + lim < 1000000 → ∀ p q, Val n qs p → Val n qs q → Does n c qs (g p q qs) (fun bs => f (sem qs bs p) (sem qs bs q))) {xs ys : List Int} {len : Nat} (hlx : xs.length = len) (hly : ys.length = len) (hlen : ps.length + c * len + lim < 1000000 + c) (hvx : Vals n ps xs) (hvy : Vals n ps ys) :
   DoesW n (c * len) ps len ((runS (zipS g xs ys) () ps len).1, (runS (zipS g xs ys) () ps len).2.2) (fun bs => numB (fun i => f (sem ps bs (xs.getD i 0)) (sem ps bs (ys.getD i 0))) len) :=
 (zip_does hg g f h (by omega) (by omega) hlen hvx hvy len (Nat.le_refl _)).word (runS_len _ _ _ _)
theorem ite_num {n : Nat} {ps : Gr} (hg : chkE n ps = 0) {ys zs : List Int} {x : Int} {len : Nat} (hly : ys.length = len) (hlz : zs.length = len) (hl : ps.length + 3 * len < 1000000) (hx : Val n ps x) (hvy : Vals n ps ys) (hvz : Vals n ps zs) :
   DoesW n (3 * len) ps len ((runS (plainS (iteS n x ys zs)) () ps len).1, (runS (plainS (iteS n x ys zs)) () ps len).2.2) (fun bs => if sem ps bs x then numW ps bs ys else numW ps bs zs) := by
 refine ((ite_does hg (by omega) (by omega) hl hx hvy hvz len (Nat.le_refl _)).word (runS_len _ _ _ _)).to fun bs hb => ?_
 unfold numW
 rw [hly, hlz]
 cases sem ps bs x <;> rfl
theorem same_num {n : Nat} {ps : Gr} (hg : chkE n ps = 0) {xs ys : List Int} (hly : ys.length = xs.length) (hn : xs.length ≤ 8) (hl : ps.length + 100 < 1000000) (hx : Vals n ps xs) (hy : Vals n ps ys) :
   DoesW n 32 ps 1 ([(samesG n xs ys ps xs.length).1], (samesG n xs ys ps xs.length).2) (fun bs => if numW ps bs xs = numW ps bs ys then 1 else 0) := by
 have h := same_does hg hx hy xs.length (by omega)
 refine ⟨h.ext.more (by omega), fun y hy => by rw [List.mem_singleton.1 hy]; exact h.val, rfl, fun bs hb => ?_⟩
 rw [num_one, h.tells bs hb]
 have e := eq_num (fun i => sem ps bs (xs.getD i 0)) (fun i => sem ps bs (ys.getD i 0)) xs.length
 have e2 : numW ps bs xs = numW ps bs ys ↔ ∀ i, i < xs.length → sem ps bs (xs.getD i 0) = sem ps bs (ys.getD i 0) := by
   rw [← e]; unfold numW; rw [hly]
 by_cases hq : numW ps bs xs = numW ps bs ys
 · rw [if_pos hq, if_pos]
   rw [List.all_eq_true]
   intro i hi
   rw [e2.1 hq i (List.mem_range.1 hi)]
   simp
 · rw [if_neg hq, if_neg]
   intro ha
   rw [List.all_eq_true] at ha
   exact hq (e2.2 fun i hi => by simpa using ha i (List.mem_range.2 hi))
theorem less_number {n : Nat} {ps : Gr} (hg : chkE n ps = 0) {xs ys : List Int} (hly : ys.length = xs.length) (hn : xs.length ≤ 8) (hl : ps.length + 100 < 1000000) (hx : Vals n ps xs) (hy : Vals n ps ys) :
   DoesW n 32 ps 1 ([(lessG n xs ys ps xs.length).1], (lessG n xs ys ps xs.length).2) (fun bs => if numW ps bs xs < numW ps bs ys then 1 else 0) := by
 have h := less_does hg hx hy xs.length (by omega)
 refine ⟨h.ext.more (by omega), fun y hy => by rw [List.mem_singleton.1 hy]; exact h.val, rfl, fun bs hb => ?_⟩
 rw [num_one, h.tells bs hb]
 have e := less_num (sems ps bs xs) (sems ps bs ys) xs.length
 rw [numB_congr (f := fun i => (sems ps bs xs).getD i false) (g := fun i => sem ps bs (xs.getD i 0)) (fun i _ => sems_at i), numB_congr (f := fun i => (sems ps bs ys).getD i false) (g := fun i => sem ps bs (ys.getD i 0)) (fun i _ => sems_at i)] at e
 have e2 : lessB (sems ps bs xs) (sems ps bs ys) xs.length = true ↔ numW ps bs xs < numW ps bs ys := by
   rw [e]; unfold numW; rw [hly]
 by_cases hq : numW ps bs xs < numW ps bs ys
 · rw [if_pos hq, if_pos (e2.2 hq)]
 · rw [if_neg hq, if_neg (fun h => hq (e2.1 h))]
structure DivIs (j H Y L Q : Nat) : Prop where
 zero : Y = 0 → L = H ∧ Q + 1 = 2 ^ j
 pos : 0 < Y → L = H % Y ∧ Q = H / Y
 small : H < 2 ^ j
theorem DivIs.le {j H Y L Q : Nat} (h : DivIs j H Y L Q) : L < 2 ^ j := by
 rcases Nat.eq_zero_or_pos Y with e | e
 · rw [(h.zero e).1]; exact h.small
 · rw [(h.pos e).1]; exact Nat.lt_of_le_of_lt (Nat.mod_le _ _) h.small
theorem DivIs.step {j H Y L Q b : Nat} (h : DivIs j H Y L Q) (hb : b ≤ 1) :
   DivIs (j + 1) (2 * H + b) Y (if Y ≤ 2 * L + b then 2 * L + b - Y else 2 * L + b) (2 * Q + (if Y ≤ 2 * L + b then 1 else 0)) := by
 have hs := h.small
 refine ⟨fun e => ?_, fun e => ?_, by rw [Nat.pow_succ]; omega⟩
 · obtain ⟨h1, h2⟩ := h.zero e
   rw [if_pos (by omega), if_pos (by omega), Nat.pow_succ]
   omega
 · obtain ⟨h1, h2⟩ := h.pos e
   have hL : L < Y := by rw [h1]; exact Nat.mod_lt _ e
   have hH : Y * Q + L = H := by rw [h1, h2]; exact Nat.div_add_mod H Y
   by_cases hf : Y ≤ 2 * L + b
   · rw [if_pos hf, if_pos hf]
     have e1 : 2 * H + b = (2 * L + b - Y) + Y * (2 * Q + 1) := by
       rw [← hH, Nat.mul_add, Nat.mul_add Y, ← Nat.mul_assoc, Nat.mul_comm 2 Y, Nat.mul_assoc]; omega
     rw [e1, Nat.add_mul_mod_self_left, Nat.add_mul_div_left _ _ e, Nat.mod_eq_of_lt (by omega), Nat.div_eq_of_lt (by omega)]
     omega
   · rw [if_neg hf, if_neg hf]
     have e1 : 2 * H + b = (2 * L + b) + Y * (2 * Q + 0) := by
       rw [← hH, Nat.mul_add, Nat.mul_add Y, ← Nat.mul_assoc, Nat.mul_comm 2 Y, Nat.mul_assoc]; omega
     rw [e1, Nat.add_mul_mod_self_left, Nat.add_mul_div_left _ _ e, Nat.mod_eq_of_lt (by omega), Nat.div_eq_of_lt (by omega)]
     omega
def longL (left : List Int) (len : Nat) (b : Int) : List Int := ((List.range len).map fun k : Nat => atL left ((k : Int) - 1)).set 0 b
theorem longL_len (left : List Int) (len : Nat) (b : Int) : (longL left len b).length = len := by simp [longL]
def pickL (n : Nat) (x : Int) (ys zs : List Int) (ps : Gr) (len : Nat) : List Int × Gr := ((runS (plainS (iteS n x ys zs)) () ps len).1, (runS (plainS (iteS n x ys zs)) () ps len).2.2)
theorem pickL_len (n : Nat) (x : Int) (ys zs : List Int) (ps : Gr) (len : Nat) : (pickL n x ys zs ps len).1.length = len := runS_len _ _ _ _
def divS (n : Nat) (xs ys : List Int) (j : Nat) (r : List Int × List Int × Gr) : List Int × List Int × Gr :=
 let lo := longL r.2.1 xs.length (xs.getD (xs.length - 1 - j) 0)
 let d := sumL n lo (ys.map turn) 1 r.2.2
 let p := pickL n d.2.1 d.1 lo d.2.2 xs.length
 (r.1.set (xs.length - 1 - j) d.2.1, p.1, p.2)
def divL (n : Nat) (xs ys : List Int) (ps : Gr) : Nat → List Int × List Int × Gr
 | 0 => (List.replicate xs.length 0, bitsC 0 xs.length, ps)
 | j + 1 => divS n xs ys j (divL n xs ys ps j)
theorem vals_set {n : Nat} {ps : Gr} {l : List Int} (h : Vals n ps l) (i : Nat) {x : Int} (hx : Val n ps x) : Vals n ps (l.set i x) := fun y hy => by
 rcases List.mem_or_eq_of_mem_set hy with h1 | h1
 · exact h y h1
 · rw [h1]; exact hx
theorem long_vals {n : Nat} {ps : Gr} {l : List Int} (h : Vals n ps l) {len : Nat} {x : Int} (hx : Val n ps x) : Vals n ps (longL l len x) := by
 refine vals_set (fun y hy => ?_) _ hx
 obtain ⟨i, _, rfl⟩ := List.mem_map.1 hy
 exact atL_val h _
theorem num_long {ps : Gr} {bs : List Bool} {l : List Int} {len : Nat} {x : Int} (hl : l.length = len) (h0 : 0 < len) (hs : 2 * numW ps bs l + 1 < 2 ^ len) : numW ps bs (longL l len x) = 2 * numW ps bs l + (if sem ps bs x then 1 else 0) := by
 unfold numW
 rw [longL_len, hl]
 unfold numW at hs
 rw [hl] at hs
 obtain ⟨m, rfl⟩ : ∃ m, len = 1 + m := ⟨len - 1, by omega⟩
 rw [numB_add]
 have e1 : numB (fun i => sem ps bs ((longL l (1 + m) x).getD i 0)) 1 = if sem ps bs x then 1 else 0 := by
   have e0 : (longL l (1 + m) x).getD 0 0 = x := by
     unfold longL
     rw [List.getD, List.getElem?_set_self (by simp; omega)]; rfl
   simp only [numB, e0, Nat.pow_zero, Nat.zero_add]
 have e2 : numB (fun i => sem ps bs ((longL l (1 + m) x).getD (i + 1) 0)) m = numB (fun i => sem ps bs (l.getD i 0)) m := numB_congr fun i hi => by
   have e0 : (longL l (1 + m) x).getD (i + 1) 0 = atL l ((i : Int) + 1 - 1) := by
     unfold longL
     rw [List.getD, List.getElem?_set_ne (by omega), List.getElem?_map, List.getElem?_range (by omega)]
     simp
   rw [e0]
   have := @sem_atL' ps bs l i 0
   rw [show (i : Int) + 1 - 1 = (i : Int) + ((0 : Nat) : Int) by omega, this]; rfl
 have e3 := numB_add (fun i => sem ps bs (l.getD i 0)) m 1
 rw [Nat.add_comm m 1] at e3
 have hz : numB (fun i => sem ps bs (l.getD (i + m) 0)) 1 = 0 := by
   rcases Nat.eq_zero_or_pos (numB (fun i => sem ps bs (l.getD (i + m) 0)) 1) with h | h
   · exact h
   · have h2 : 2 ^ m * 1 ≤ 2 ^ m * numB (fun i => sem ps bs (l.getD (i + m) 0)) 1 := Nat.mul_le_mul_left _ h
     rw [Nat.pow_add] at hs
     omega
 rw [hz, Nat.mul_zero, Nat.add_zero] at e3
 rw [e1, e2, e3, Nat.pow_one]
 omega
theorem hi_step (X len j : Nat) (h : j < len) : X / 2 ^ (len - (j + 1)) = 2 * (X / 2 ^ (len - j)) + (if X.testBit (len - 1 - j) then 1 else 0) := by
 have e1 : len - j = (len - (j + 1)) + 1 := by omega
 rw [e1, Nat.pow_succ, ← Nat.div_div_eq_div_mul]
 have e2 : len - 1 - j = len - (j + 1) := by omega
 rw [e2, Nat.testBit_eq_decide_div_mod_eq]
 have := Nat.div_add_mod (X / 2 ^ (len - (j + 1))) 2
 rcases Nat.mod_two_eq_zero_or_one (X / 2 ^ (len - (j + 1))) with h | h <;> rw [h] at this ⊢ <;> simp <;> omega
theorem div_ok {n : Nat} {ps : Gr} (hg : chkE n ps = 0) {xs ys : List Int} (hly : ys.length = xs.length) (hn : xs.length ≤ 8) (hl : ps.length + 1000 < 1000000) (hvx : Vals n ps xs) (hvy : Vals n ps ys) :
   ∀ j, j ≤ xs.length → Ext n (96 * j) ps (divL n xs ys ps j).2.2 ∧ Vals n (divL n xs ys ps j).2.2 (divL n xs ys ps j).1 ∧ Vals n (divL n xs ys ps j).2.2 (divL n xs ys ps j).2.1 ∧ (divL n xs ys ps j).1.length = xs.length ∧ (divL n xs ys ps j).2.1.length = xs.length ∧
     ∀ bs : List Bool, bs.length = n → DivIs j (numW ps bs xs / 2 ^ (xs.length - j)) (numW ps bs ys) (numW (divL n xs ys ps j).2.2 bs (divL n xs ys ps j).2.1) (numB (fun i => sem (divL n xs ys ps j).2.2 bs ((divL n xs ys ps j).1.getD (i + (xs.length - j)) 0)) j) := by
 intro j
 induction j with
 | zero =>
   intro _
   refine ⟨Ext.refl hg, fun y hy => ?_, vals_const, by simp [divL], by simp [divL, bitsC], fun bs hb => ?_⟩
   · rw [List.eq_of_mem_replicate hy]; exact val_no _ _
   · have e1 : numW (divL n xs ys ps 0).2.2 bs (divL n xs ys ps 0).2.1 = 0 := by
       have := @num_const ps bs 0 xs.length (by omega) (by have := Int.pow_pos (n := 2) (m := xs.length) (by omega); exact this)
       show numW ps bs (bitsC 0 xs.length) = 0
       omega
     have e2 : numW ps bs xs / 2 ^ (xs.length - 0) = 0 := Nat.div_eq_of_lt (numW_lt _ _ _)
     rw [e1, e2]
     exact ⟨fun _ => ⟨rfl, rfl⟩, fun h => ⟨(Nat.zero_mod _).symm, (Nat.zero_div _).symm⟩, Nat.one_pos⟩
 | succ j ih =>
   intro hj
   obtain ⟨i1, i2, i3, i4, i5, i6⟩ := ih (by omega)
   have l1 := i1.len.2
   have vx := getD_val hvx (show xs.length - 1 - j < xs.length by omega)
   have vlo : Vals n (divL n xs ys ps j).2.2 (longL (divL n xs ys ps j).2.1 xs.length (xs.getD (xs.length - 1 - j) 0)) := long_vals i3 (i1.val vx)
   have llo := longL_len (divL n xs ys ps j).2.1 xs.length (xs.getD (xs.length - 1 - j) 0)
   obtain ⟨d1, d2, d3⟩ := diffL_does i1.good (xs := longL (divL n xs ys ps j).2.1 xs.length (xs.getD (xs.length - 1 - j) 0)) (ys := ys) (by rw [llo, hly]) (by omega) (by omega) vlo (i1.vals hvy)
   have l2 := d1.ext.len.2
   simp only at l2
   have hp := ite_num d1.ext.good (ys := (sumL n (longL (divL n xs ys ps j).2.1 xs.length (xs.getD (xs.length - 1 - j) 0)) (ys.map turn) 1 (divL n xs ys ps j).2.2).1) (zs := longL (divL n xs ys ps j).2.1 xs.length (xs.getD (xs.length - 1 - j) 0)) (len := xs.length) (d1.len.trans llo) llo (by simp only; omega) d2 d1.vals (d1.ext.vals vlo)
   have ed : divL n xs ys ps (j + 1) = ((divL n xs ys ps j).1.set (xs.length - 1 - j) (sumL n (longL (divL n xs ys ps j).2.1 xs.length (xs.getD (xs.length - 1 - j) 0)) (ys.map turn) 1 (divL n xs ys ps j).2.2).2.1, pickL n (sumL n (longL (divL n xs ys ps j).2.1 xs.length (xs.getD (xs.length - 1 - j) 0)) (ys.map turn) 1 (divL n xs ys ps j).2.2).2.1 (sumL n (longL (divL n xs ys ps j).2.1 xs.length (xs.getD (xs.length - 1 - j) 0)) (ys.map turn) 1 (divL n xs ys ps j).2.2).1 (longL (divL n xs ys ps j).2.1 xs.length (xs.getD (xs.length - 1 - j) 0)) (sumL n (longL (divL n xs ys ps j).2.1 xs.length (xs.getD (xs.length - 1 - j) 0)) (ys.map turn) 1 (divL n xs ys ps j).2.2).2.2 xs.length) := rfl
   rw [ed]
   generalize (divL n xs ys ps j) = r at *
   obtain ⟨of, le, qs⟩ := r
   simp only at *
   generalize hlo : longL le xs.length (xs.getD (xs.length - 1 - j) 0) = lo at *
   generalize hsd : sumL n lo (ys.map turn) 1 qs = sd at *
   obtain ⟨rest, fits, q2⟩ := sd
   simp only at *
   generalize hpk : pickL n fits rest lo q2 xs.length = pk at *
   rw [show ((runS (plainS (iteS n fits rest lo)) () q2 xs.length).1, (runS (plainS (iteS n fits rest lo)) () q2 xs.length).2.2) = pk from hpk] at hp
   obtain ⟨l', q3⟩ := pk
   simp only at *
   have hq := d1.ext.trans hp.ext
   refine ⟨(i1.trans hq).more (by omega), vals_set (hq.vals i2) _ (hp.ext.val d2), hp.vals, by simp; exact i4, hp.len, fun bs hb => ?_⟩
   have hd := i6 bs hb
   have hlt := hd.le
   have hb2 : (if sem ps bs (xs.getD (xs.length - 1 - j) 0) then 1 else 0) ≤ 1 := by split <;> omega
   have hst := hd.step hb2
   have hpow : 2 ^ (j + 1) ≤ 2 ^ xs.length := Nat.pow_le_pow_right (by omega) (by omega)
   rw [Nat.pow_succ] at hpow
   have nlo : numW qs bs lo = 2 * numW qs bs le + (if sem ps bs (xs.getD (xs.length - 1 - j) 0) then 1 else 0) := by
     rw [← hlo, num_long i5 (by omega) (by omega), i1.same bs hb _ vx]
   have ny : numW qs bs ys = numW ps bs ys := i1.num hb hvy
   have hloL : numW qs bs lo < 2 ^ xs.length := by have := numW_lt qs bs lo; rwa [llo] at this
   have hyL : numW ps bs ys < 2 ^ xs.length := by have := numW_lt ps bs ys; rwa [hly] at this
   have hf := d3 bs hb
   rw [ny, nlo] at hf
   have e1 : numW q3 bs l' = if numW ps bs ys ≤ 2 * numW qs bs le + (if sem ps bs (xs.getD (xs.length - 1 - j) 0) then 1 else 0) then 2 * numW qs bs le + (if sem ps bs (xs.getD (xs.length - 1 - j) 0) then 1 else 0) - numW ps bs ys else 2 * numW qs bs le + (if sem ps bs (xs.getD (xs.length - 1 - j) 0) then 1 else 0) := by
     rw [hp.num bs hb, d1.num bs hb, d1.ext.num hb vlo, ny, nlo, llo]
     rw [nlo] at hloL
     by_cases hc : numW ps bs ys ≤ 2 * numW qs bs le + (if sem ps bs (xs.getD (xs.length - 1 - j) 0) then 1 else 0)
     · rw [if_pos (hf.2 hc), if_pos hc]
       generalize 2 * numW qs bs le + (if sem ps bs (xs.getD (xs.length - 1 - j) 0) then 1 else 0) = A at *
       rw [show A + 2 ^ xs.length - numW ps bs ys = A - numW ps bs ys + 2 ^ xs.length by omega, Nat.add_mod_right, Nat.mod_eq_of_lt (by omega)]
     · rw [if_neg (fun h => hc (hf.1 h)), if_neg hc]
   have e2 : numB (fun i => sem q3 bs ((of.set (xs.length - 1 - j) fits).getD (i + (xs.length - (j + 1))) 0)) (j + 1) = 2 * numB (fun i => sem qs bs (of.getD (i + (xs.length - j)) 0)) j + (if numW ps bs ys ≤ 2 * numW qs bs le + (if sem ps bs (xs.getD (xs.length - 1 - j) 0) then 1 else 0) then 1 else 0) := by
     have a0 := numB_add (fun i => sem q3 bs ((of.set (xs.length - 1 - j) fits).getD (i + (xs.length - (j + 1))) 0)) 1 j
     rw [Nat.add_comm 1 j] at a0
     rw [a0]
     have a1 : numB (fun i => sem q3 bs ((of.set (xs.length - 1 - j) fits).getD (i + (xs.length - (j + 1))) 0)) 1 = (if numW ps bs ys ≤ 2 * numW qs bs le + (if sem ps bs (xs.getD (xs.length - 1 - j) 0) then 1 else 0) then 1 else 0) := by
       have e0 : (of.set (xs.length - 1 - j) fits).getD (0 + (xs.length - (j + 1))) 0 = fits := by
         rw [show 0 + (xs.length - (j + 1)) = xs.length - 1 - j by omega, List.getD, List.getElem?_set_self (by omega)]; rfl
       rw [numB, numB, e0, Nat.pow_zero, Nat.zero_add, show sem q3 bs fits = sem q2 bs fits from hp.ext.same bs hb _ d2]
       by_cases hc : numW ps bs ys ≤ 2 * numW qs bs le + (if sem ps bs (xs.getD (xs.length - 1 - j) 0) then 1 else 0)
       · rw [if_pos (hf.2 hc), if_pos hc]
       · rw [if_neg (fun h => hc (hf.1 h)), if_neg hc]
     have a2 : numB (fun i => sem q3 bs ((of.set (xs.length - 1 - j) fits).getD (i + 1 + (xs.length - (j + 1))) 0)) j = numB (fun i => sem qs bs (of.getD (i + (xs.length - j)) 0)) j := numB_congr fun i hi => by
       rw [show i + 1 + (xs.length - (j + 1)) = i + (xs.length - j) by omega, show (of.set (xs.length - 1 - j) fits).getD (i + (xs.length - j)) 0 = of.getD (i + (xs.length - j)) 0 by rw [List.getD, List.getElem?_set_ne (by omega)]; rfl]
       exact hq.same bs hb _ (getD_val i2 (by omega))
     rw [a1, a2, Nat.pow_one]
     omega
   rw [e1, e2, hi_step _ _ _ (by omega)]
   have e3 : sem ps bs (xs.getD (xs.length - 1 - j) 0) = (numW ps bs xs).testBit (xs.length - 1 - j) := numW_bit rfl (by omega)
   rw [e3] at hst ⊢
   exact hst
end Go.Proofs.YtabnimgpednhjabGreat.Gg

namespace Go.Proofs.YtabnimgpednhjabGreat.Gg
open Go.RowKit Go.Maps Go.WideMaps
set_option maxRecDepth 100000
theorem mk_ints (n : Nat) (hn : n ≤ 1000) : ∃ CZ : Array Value, (∀ w : World, IRow (w.alloc (.cells CZ 3)) w.heap.size (List.replicate n 0)) ∧
   ∀ w : World, (Instr.makeSlice 25 (.int .i64 (n : Int)) (.int .i64 (n : Int))).run Tryz.prog w = .ok (.slice (some ⟨w.heap.size, 0, none⟩) n n) (w.alloc (.cells CZ 3)) := by
 obtain ⟨i0, hi, hz0, hz1, hz2⟩ := info_parts info3
 refine ⟨madeCells #[.int .i64 0] n, fun w => ?_, fun w => ?_⟩
 · have r3 : (w.alloc (.cells (madeCells #[.int .i64 0] n) 3)).ownsRow w.heap.size 3 1 (.slice (some ⟨w.heap.size, 0, none⟩) n n) n (madeCells #[.int .i64 0] n).toList := World.ownsRow_lit w _ n (Nat.le_refl _) (by unfold maxLen; omega) (by rw [size_madeCells]; omega)
   intro j hj
   have hj' : j < n := by simpa using hj
   refine ⟨?_, r3.frozenAt j⟩
   rw [r3.cellAt j (by omega)]
   simp [toList_madeCells_one, hj']
 · have h := run_makeSlice (P := Tryz.prog) w 25 3 i0 (.int .i64 0) Tryz.underlying25 hi hz0 .i64 .i64 (n : Int) (n : Int) (by omega) (Int.le_refl _) (by rw [hz1]; simp; omega) (by rw [hz2]; omega) (by omega)
   rw [hz1, Nat.mul_one, Int.toNat_natCast] at h
   exact h
structure Dz (w wr : World) (base Pb M B : Nat) (v v' : Value) (n len L : Nat) (le : List Int) (qs : Gr) : Prop where
 bs : Bs wr base Pb M B v' n qs
 gon : Gon base M B w v wr v'
 c0 : wr.cell? ⟨w.heap.size, 0, none⟩ = some (.pointer (some ⟨Pb, 0, none⟩))
 c7 : wr.cell? ⟨w.heap.size + 1, 0, none⟩ = some (.slice (some ⟨L, 0, none⟩) len len)
 f7 : wr.frozen? ⟨w.heap.size + 1, 0, none⟩ = false
 rl : IRow wr L le
 a0 : Apart M B v' w.heap.size
 a7 : Apart M B v' (w.heap.size + 1)
 al : Apart M B v' L
 hL : w.heap.size + 1 < L
 lL : L < wr.heap.size
 hP : Pb < w.heap.size
structure Dy (w wr : World) (M B : Nat) (v' : Value) (L O : Nat) (of : List Int) : Prop where
 ro : IRow wr O of
 ao : Apart M B v' O
 hO : w.heap.size + 1 < O
 lO : O < wr.heap.size
 ne : O ≠ L
theorem irow_gon {base M B : Nat} {wr w2 : World} {v' v2 : Value} {L : Nat} {le : List Int} (h : IRow wr L le) (hg : Gon base M B wr v' w2 v2) (ha : Apart M B v' L) (hl : L < wr.heap.size) : IRow w2 L le := h.kept (hg.far L hl ha).1
theorem Dz.gone {w wr w2 : World} {base Pb M B : Nat} {v v' v2 : Value} {n len L : Nat} {le : List Int} {qs q2 : Gr} (h : Dz w wr base Pb M B v v' n len L le qs) (hg : Gon base M B wr v' w2 v2) (hb : Bs w2 base Pb M B v2 n q2) : Dz w w2 base Pb M B v v2 n len L le q2 := by
 have l0 := World.block_lt_of_cell? _ _ h.c0
 have l7 := World.block_lt_of_cell? _ _ h.c7
 exact ⟨hb, h.gon.trans hg, hg.cell h.c0 h.a0, hg.cell h.c7 h.a7, by rw [World.frozen?_of_block (w := wr) (hg.far _ l7 h.a7).1]; exact h.f7, irow_gon h.rl hg h.al h.lL, (hg.far _ l0 h.a0).2, (hg.far _ l7 h.a7).2, (hg.far _ h.lL h.al).2, h.hL, Nat.lt_of_lt_of_le h.lL hg.bel.size, h.hP⟩
theorem Dz.quiet {w wr w2 : World} {base Pb M B : Nat} {v v' : Value} {n len L : Nat} {le : List Int} {qs : Gr} (h : Dz w wr base Pb M B v v' n len L le qs) (hb : Below wr.heap.size wr w2) : Gon base M B wr v' w2 v' := gon_quiet (hb.mono h.bs.hb) hb
theorem Dz.later {w wr w2 : World} {base Pb M B : Nat} {v v' : Value} {n len L : Nat} {le : List Int} {qs : Gr} (h : Dz w wr base Pb M B v v' n len L le qs) (hb : Below wr.heap.size wr w2) : Dz w w2 base Pb M B v v' n len L le qs := h.gone (h.quiet hb) (h.bs.later hb)
theorem Dy.gone {w wr w2 : World} {base M B : Nat} {v' v2 : Value} {L O : Nat} {of : List Int} (h : Dy w wr M B v' L O of) (hg : Gon base M B wr v' w2 v2) : Dy w w2 M B v2 L O of :=
 ⟨irow_gon h.ro hg h.ao h.lO, (hg.far _ h.lO h.ao).2, h.hO, Nat.lt_of_lt_of_le h.lO hg.bel.size, h.ne⟩
theorem gon_setNew {base M B : Nat} {w w1 : World} {v v1 : Value} (h : Gon base M B w v w1 v1) (hb : base ≤ w.heap.size) {q : Addr} (hq : w.heap.size ≤ q.block) {x : Value} : Gon base M B w v (w1.setCell q x) v1 :=
 ⟨h.bel.setCell (Nat.le_trans hb hq) x, fun g hg ha => ⟨by rw [Below.heap_setCell _ _ _ _ (by omega)]; exact (h.far g hg ha).1, (h.far g hg ha).2⟩⟩
theorem irow_far {w : World} {g : Nat} {l : List Int} (h : IRow w g l) {q : Addr} (hq : q.block ≠ g) (x : Value) : IRow (w.setCell q x) g l := h.kept (Below.heap_setCell _ _ _ _ (fun e => hq e.symm))
theorem Dz.set {w wr : World} {base Pb M B : Nat} {v v' : Value} {n len L : Nat} {le : List Int} {qs : Gr} (h : Dz w wr base Pb M B v v' n len L le qs) (hbw : base ≤ w.heap.size) {q : Addr} (hq : w.heap.size + 1 < q.block) (hqL : q.block ≠ L) (ha : Apart M B v' q.block) (x : Value) : Dz w (wr.setCell q x) base Pb M B v v' n len L le qs :=
 ⟨h.bs.set ha (by have := h.hP; omega), gon_setNew h.gon hbw (by omega), cell_set_far h.c0 (by simp only [ne_eq]; omega), cell_set_far h.c7 (by simp only [ne_eq]; omega), by rw [World.frozen?_setCell]; exact h.f7, irow_far h.rl hqL x, h.a0, h.a7, h.al, h.hL, by simpa using h.lL, h.hP⟩
theorem Dz.put {w wr : World} {base Pb M B : Nat} {v v' : Value} {n len L : Nat} {le : List Int} {qs : Gr} (h : Dz w wr base Pb M B v v' n len L le qs) (hbw : base ≤ w.heap.size) {L2 : Nat} {l2 : List Int} (hr : IRow wr L2 l2) (ha : Apart M B v' L2) (h2 : w.heap.size + 1 < L2) (hl2 : L2 < wr.heap.size) :
   Dz w (wr.setCell ⟨w.heap.size + 1, 0, none⟩ (.slice (some ⟨L2, 0, none⟩) len len)) base Pb M B v v' n len L2 l2 qs :=
 ⟨h.bs.set h.a7 (by have := h.hP; simp only [ne_eq]; omega), gon_setNew h.gon hbw (by simp only; omega), cell_set_far h.c0 (by simp only [ne_eq]; omega), World.cell?_setCell_same wr _ _ h.c7, by rw [World.frozen?_setCell]; exact h.f7, irow_far hr (by simp only [ne_eq]; omega) _, h.a0, h.a7, ha, h2, by simpa using hl2, h.hP⟩
theorem Dy.put {w wr : World} {M B : Nat} {v' : Value} {L O : Nat} {of : List Int} (h : Dy w wr M B v' L O of) {L2 : Nat} (hne : O ≠ L2) {x : Value} : Dy w (wr.setCell ⟨w.heap.size + 1, 0, none⟩ x) M B v' L2 O of :=
 ⟨irow_far h.ro (by have := h.hO; simp only [ne_eq]; omega) x, h.ao, h.hO, by simpa using h.lO, hne⟩
theorem Dy.set {w wr : World} {M B : Nat} {v' : Value} {L O : Nat} {of : List Int} (h : Dy w wr M B v' L O of) (i : Nat) (x : Int) : Dy w (wr.setCell ⟨O, i, none⟩ (.int .i64 x)) M B v' L O (of.set i x) :=
 ⟨h.ro.set i x, h.ao, h.hO, by simpa using h.lO, h.ne⟩
theorem Dy.far {w wr : World} {M B : Nat} {v' : Value} {L O : Nat} {of : List Int} (h : Dy w wr M B v' L O of) {q : Addr} (hq : q.block ≠ O) (x : Value) : Dy w (wr.setCell q x) M B v' L O of :=
 ⟨irow_far h.ro hq x, h.ao, h.hO, by simpa using h.lO, h.ne⟩
theorem dz_start {w W2 wy : World} {base Pb M B : Nat} {v : Value} {n : Nat} {ps : Gr} (h : Bs w base Pb M B v n ps) (hb2 : Below w.heap.size w W2) (hsz : W2.heap.size = w.heap.size + 2) (c0 : W2.cell? ⟨w.heap.size, 0, none⟩ = some (.pointer (some ⟨Pb, 0, none⟩))) (c7 : W2.cell? ⟨w.heap.size + 1, 0, none⟩ = some (.slice none 0 0)) (f7 : W2.frozen? ⟨w.heap.size + 1, 0, none⟩ = false)
   (hbw : Below W2.heap.size W2 wy) {G len : Nat} {le : List Int} (hG : W2.heap.size ≤ G) (hlG : G < wy.heap.size) (hr : IRow wy G le) : Dz w (wy.setCell ⟨w.heap.size + 1, 0, none⟩ (.slice (some ⟨G, 0, none⟩) len len)) base Pb M B v v n len G le ps := by
 have hby := bthen hb2 hbw
 have hP : Pb < w.heap.size := World.block_lt_of_cell? _ _ h.p0
 exact ⟨(h.later hby).set (h.bm.new (by simp only; omega)) (by simp only [ne_eq]; omega), gon_setNew (gon_quiet (hby.mono h.hb) hby) h.hb (by simp only; omega), cell_set_far (cell_later hbw c0) (by simp only [ne_eq]; omega), World.cell?_setCell_same wy _ _ (cell_later hbw c7), by rw [World.frozen?_setCell, hbw.frozen (by simp only; omega)]; exact f7, irow_far hr (by simp only [ne_eq]; omega) _, h.bm.new (Nat.le_refl _), h.bm.new (by omega), h.bm.new (by omega), by omega, by simpa using hlG, hP⟩
theorem irow_lt {w : World} {g : Nat} {l : List Int} (h : IRow w g l) (h0 : 0 < l.length) : g < w.heap.size := World.block_lt_of_cell? _ _ (h 0 h0).1
def MadeD (w : World) (base Pb M B : Nat) (v : Value) (n len : Nat) (r : List Int × List Int × Gr) (e : Ending) (w' : World) : Prop :=
 ∃ v' O L, e = .returned (.tuple #[.slice (some ⟨O, 0, none⟩) len len, .slice (some ⟨L, 0, none⟩) len len]) ∧ (w.heap.size ≤ O ∧ w.heap.size ≤ L) ∧ IRow w' O r.1 ∧ IRow w' L r.2.1 ∧ Bs w' base Pb M B v' n r.2.2 ∧ Gon base M B w v w' v' ∧ Apart M B v' O ∧ Apart M B v' L
set_option maxHeartbeats 8000000 in
theorem divide_any {w : World} {base Pb M B : Nat} {v : Value} {n : Nat} {ps : Gr} (h : Bs w base Pb M B v n ps) {xs ys : List Int} {px py : Option Addr} {cx cy : Nat} (hly : ys.length = xs.length) (h0 : 0 < xs.length) (hn : xs.length ≤ 8) (hl : ps.length + 1000 < 1000000)
   (hvx : Vals n ps xs) (hvy : Vals n ps ys) (hX : LA w M B v px xs) (hY : LA w M B v py ys) :
   Calls Tryz.prog 126 #[.pointer (some ⟨Pb, 0, none⟩), .slice px xs.length cx, .slice py ys.length cy] w (MadeD w base Pb M B v n xs.length (divL n xs ys ps xs.length)) := by
 have hmf : ∀ (fn : Fn) (first cap : Array Value) (w : World), (Instr.makeFunc fn first cap).run Tryz.prog w = .ok (.func fn first cap) w := fun _ _ _ _ => rfl
 have HOK := hide (div_ok h.good hly hn hl hvx hvy)
 have HPb := hide (World.block_lt_of_cell? _ _ h.p0)
 obtain ⟨CZ, hCZ, hmk⟩ := mk_ints xs.length (by omega)
 have hb2 : Below w.heap.size w ((w.alloc (.cells #[.pointer (some ⟨Pb, 0, none⟩)] 64)).alloc (.cells #[.slice none 0 0] 25)) := bal (bal (Below.refl _ _) _) _
 have b0 : ((w.alloc (.cells #[.pointer (some ⟨Pb, 0, none⟩)] 64)).alloc (.cells #[.slice none 0 0] 25)).cell? ⟨w.heap.size, 0, none⟩ = some (.pointer (some ⟨Pb, 0, none⟩)) := by simp [go_sem]
 have b7 : ((w.alloc (.cells #[.pointer (some ⟨Pb, 0, none⟩)] 64)).alloc (.cells #[.slice none 0 0] 25)).cell? ⟨w.heap.size + 1, 0, none⟩ = some (.slice none 0 0) := by simp [go_sem]
 have f7 : ((w.alloc (.cells #[.pointer (some ⟨Pb, 0, none⟩)] 64)).alloc (.cells #[.slice none 0 0] 25)).frozen? ⟨w.heap.size + 1, 0, none⟩ = false := by simp [go_sem]
 have hsz : ((w.alloc (.cells #[.pointer (some ⟨Pb, 0, none⟩)] 64)).alloc (.cells #[.slice none 0 0] 25)).heap.size = w.heap.size + 2 := by simp
 have HC := hide (fun w1 => constant_any 0 xs.length (by omega) (by omega) hn w1)
 have HI := hide (And.intro b0 (And.intro b7 (And.intro f7 (And.intro hb2 (And.intro h (And.intro hsz (And.intro hX (And.intro hY (And.intro hvx hvy)))))))))
 have HLy := hide hly
 clear h hX hY hvx hvy hb2 b0 f7 hsz hly
 unfold MadeD
 go_enter Tryz.func126, Tryz.ntmps126
 go_upto_region 1 with fail
 generalize ((w.alloc (.cells #[.pointer (some ⟨Pb, 0, none⟩)] 64)).alloc (.cells #[.slice none 0 0] 25)) = W2 at *
 go_cut [6] from 12 to 17 (fun s wx => ∃ O L, s = .slice (some ⟨O, 0, none⟩) xs.length xs.length ∧ Hid (Dz w wx base Pb M B v v n xs.length L (bitsC 0 xs.length) ps) ∧ Hid (Dy w wx M B v L O (List.replicate xs.length 0)))
 case first =>
   go_region_held3 (fun _ => True) (trivial) ((go_at_call 55; refine (HC.out _).mono ?_; rintro e w3 ⟨G, rfl, hG, hrow, hb3⟩; have hbw : Below W2.heap.size W2 w3 := (by first | exact bthen (bal (Below.refl _ _).drew _) hb3 | exact bthen (Below.refl _ _).drew hb3); have q7 := cell_later hbw b7; have g7 : w3.frozen? ⟨w.heap.size + 1, 0, none⟩ = false := (by rw [hbw.frozen (World.block_lt_of_cell? _ _ b7)]; exact HI.out.2.2.1); have q7a : (w3.alloc (.cells CZ 3)).cell? ⟨w.heap.size + 1, 0, none⟩ = some (.slice none 0 0) := cell_later (bal (Below.refl _ _) _) q7; have g7a : (w3.alloc (.cells CZ 3)).frozen? ⟨w.heap.size + 1, 0, none⟩ = false := (by rw [(bal (Below.refl w3.heap.size w3) (.cells CZ 3)).frozen (World.block_lt_of_cell? _ _ q7)]; exact g7)))
   all_goals go_wp2_with fail
   all_goals go_meet
   all_goals
     have hrG := irow_lt hrow (by simp [bitsC]; exact h0)
     obtain ⟨i0, i7, if7, ib2, ih, isz, _⟩ := HI.out
   · have hro : IRow w3 W2.heap.size (List.replicate xs.length 0) := (hCZ W2.drew).kept (hb3.block _ (by simp))
     refine ⟨_, G, rfl, dz_start ih ib2 isz i0 i7 if7 hbw (by simp at hG; omega) hrG hrow, irow_far hro (by simp only [ne_eq]; omega) _, ih.bm.new (by omega), by omega, by simpa using irow_lt hro (by simpa using h0), ?_⟩
     simp at hG
     omega
   · refine ⟨_, G, rfl, dz_start ih ib2 isz i0 i7 if7 (bal hbw _) (by simp at hG; omega) (by simp; omega) (hrow.kept ((bal (Below.refl w3.heap.size w3) _).block _ hrG)), irow_far (hCZ w3) (by have := hbw.size; simp only [ne_eq]; omega) _, ih.bm.new (by have := hbw.size; omega), by have := hbw.size; omega, by simp, by omega⟩
 case rest =>
   obtain ⟨O, L, rfl, HZ, HO⟩ := hcut
   have hwl := wrap_id (x := (xs.length : Int) - 1) (by omega) (by omega)
   clear hmk hCZ HC b7
   go_wp2_with fail
   go_loopw [8] (fun i wr => ∃ (j : Nat) (v' : Value) (L : Nat), j ≤ xs.length ∧ i = .int .i64 ((xs.length : Int) - 1 - j) ∧ Hid (Dz w wr base Pb M B v v' n xs.length L (divL n xs ys ps j).2.1 (divL n xs ys ps j).2.2) ∧ Hid (Dy w wr M B v' L O (divL n xs ys ps j).1)) (fun i _ => (intOf i + 1).toNat)
   case atStart => exact ⟨0, v, L, Nat.zero_le _, by simp, HZ, HO⟩
   case round =>
     clear HZ HO hwl
     obtain ⟨j, v', L, hj, rfl, HZ, HO⟩ := hrel
     by_cases hlt : j < xs.length
     · obtain ⟨_, _, _, _, hbw, hsz, hX, hY, hvx, hvy⟩ := HI.out
       obtain ⟨e1, e2, e3, e4, e5, _⟩ := HOK.out j hj
       have l1 := e1.len.2
       obtain ⟨k, hk⟩ : ∃ k : Nat, k = xs.length - 1 - j := ⟨_, rfl⟩
       have hki : (xs.length : Int) - 1 - (j : Int) = (k : Int) := by omega
       have hkl : k < xs.length := by omega
       have hkl' : (k : Int) < (xs.length : Int) := by omega
       have HE : Hid (divL n xs ys ps (j + 1) = divS n xs ys j (divL n xs ys ps j)) := rfl
       have vk := e1.val (getD_val hvx hkl)
       have hx := hX.gon HZ.out.gon
       have hy := hY.gon HZ.out.gon
       unfold divS at HE
       rw [← hk] at HE
       rw [hki]
       generalize divL n xs ys ps j = r at *
       obtain ⟨of, le, qs⟩ := r
       simp only at *
       have vlo : Vals n qs (longL le xs.length (xs.getD k 0)) := long_vals e3 vk
       obtain ⟨gx, ox, rfl, hcx⟩ := hx.1 (by omega)
       have x0 := hcx k hkl
       rw [← getD_at hkl] at x0
       generalize xs.getD k 0 = xk at *
       have llo := longL_len le xs.length xk
       obtain ⟨d1, d2, _⟩ := diffL_does e1.good (xs := longL le xs.length xk) (ys := ys) (by rw [llo, HLy.out]) (by omega) (by omega) vlo (e1.vals hvy)
       have l2 := d1.ext.len.2
       have HRD := hide (fun (wq : World) (hc : wq.cell? ⟨w.heap.size + 1, 0, none⟩ = some (.slice (some ⟨L, 0, none⟩) le.length xs.length)) (hI : IntsAt wq (some ⟨L, 0, none⟩) le) => reader_any 133 (fun q : Nat => atL le ((q : Int) - 1)) xs.length (by omega) le (some ⟨L, 0, none⟩) xs.length (w.heap.size + 1) wq hc hI enter133 (fun q hq wr h1 h2 => op133_any le _ _ _ q (by omega) wr h1 h2))
       have HDF := hide (fun (wq : World) (G : Nat) (hb : Bs wq base Pb M B v' n qs) (h1 : LA wq M B v' (some ⟨G, 0, none⟩) (longL le xs.length xk)) (h2 : LA wq M B v' py ys) => difference_any hb (cx := xs.length) (cy := cy) (by rw [llo, HLy.out]; exact Nat.le_refl _) (by omega) (by rw [HLy.out]; exact hn) (by omega) vlo (e1.vals hvy) h1 h2)
       unfold MadeS at HDF
       simp only [llo] at HDF
       rw [e5] at HRD
       have HLO : Hid (longL le xs.length xk = ((List.range xs.length).map fun q : Nat => atL le ((q : Int) - 1)).set 0 xk) := rfl
       have HVL := hide (And.intro vlo llo)
       generalize longL le xs.length xk = lo at *
       generalize hsd : sumL n lo (ys.map turn) 1 qs = sd at *
       obtain ⟨rest, fits, q2⟩ := sd
       simp only at *
       have HPK := hide (fun (wq : World) (v4 : Value) (G1 G2 b9 b10 b11 : Nat) (hb : Bs wq base Pb M B v4 n q2) (b0 : wq.cell? ⟨w.heap.size, 0, none⟩ = some (.pointer (some ⟨Pb, 0, none⟩))) (c1 : wq.cell? ⟨b11, 0, none⟩ = some (.int .i64 fits)) (c2 : wq.cell? ⟨b10, 0, none⟩ = some (.slice (some ⟨G2, 0, none⟩) rest.length xs.length)) (c3 : wq.cell? ⟨b9, 0, none⟩ = some (.slice (some ⟨G1, 0, none⟩) lo.length xs.length)) (h1 : LA wq M B v4 (some ⟨G2, 0, none⟩) rest) (h2 : LA wq M B v4 (some ⟨G1, 0, none⟩) lo) (a0 : Apart M B v4 w.heap.size) (a1 : Apart M B v4 b11) (a2 : Apart M B v4 b10) (a3 : Apart M B v4 b9) =>
         pick_any hb (len := xs.length) (by have := d1.len; omega) (by omega) hn (by omega) d2 d1.vals (d1.ext.vals vlo) b0 c1 c2 c3 h1 h2 a0 a1 a2 a3)
       have HRL := hide (And.intro (show rest.length = xs.length from d1.len.trans llo) (And.intro llo (pickL_len n fits rest lo q2 xs.length)))
       rw [show rest.length = xs.length from d1.len.trans llo, llo] at HPK
       unfold MadeL at HPK
       rw [show ((runS (plainS (iteS n fits rest lo)) () q2 xs.length).1, (runS (plainS (iteS n fits rest lo)) () q2 xs.length).2.2) = pickL n fits rest lo q2 xs.length from rfl] at HPK
       generalize pickL n fits rest lo q2 xs.length = pk at *
       obtain ⟨l', q3⟩ := pk
       simp only at *
       have HIR := hide (irow_ints HZ.out.rl)
       have HX2 := hide hx
       have HY2 := hide hy
       have HEL := hide (And.intro e4 e5)
       have c7 := HZ.out.c7
       have c0 := HZ.out.c0
       clear hx hy hX hY hvx hvy hbw hsz e1 e2 e3 vk vlo d1 d2 l1 l2 hcx HOK llo HVL e4 e5 hsd
       have HRR := hide (HRD.out wr c7 HIR.out)
       have HKK := hide (And.intro hk hki)
       clear HRD HIR hk hki
       go_wp2_with fail
       refine HRR.out.mono ?_
       rintro e w1 ⟨G1, rfl, hG1, hr1, hb1⟩
       have hlr := irow_lt hr1 (by simpa using h0)
       have hb1a : Below wr.heap.size wr (w1.alloc (.cells #[.slice (some ⟨G1, 0, none⟩) xs.length xs.length] 25)) := bal hb1 _
       have hr2 : IRow (w1.alloc (.cells #[.slice (some ⟨G1, 0, none⟩) xs.length xs.length] 25)) G1 ((List.range xs.length).map fun q : Nat => atL le ((q : Int) - 1)) := hr1.kept ((bal (Below.refl w1.heap.size w1) _).block _ hlr)
       have c9 : (w1.alloc (.cells #[.slice (some ⟨G1, 0, none⟩) xs.length xs.length] 25)).cell? ⟨w1.heap.size, 0, none⟩ = some (.slice (some ⟨G1, 0, none⟩) xs.length xs.length) := by simp [go_sem]
       obtain ⟨g1, g2⟩ := hr2 0 (by simpa using h0)
       have x1 := cell_later hb1a x0
       have hap1 := HZ.out.bs.bm.new hG1
       have hP := HZ.out.hP
       have hG4 : Gon base M B wr v' ((w1.alloc (.cells #[.slice (some ⟨G1, 0, none⟩) xs.length xs.length] 25)).setCell ⟨G1, 0, none⟩ (.int .i64 xk)).drew v' := (gon_setNew (HZ.out.quiet hb1a) HZ.out.bs.hb hG1).trans (gon_quiet (Below.refl _ _).drew (Below.refl _ _).drew)
       have hs7 := World.block_lt_of_cell? _ _ c7
       have hbs4 : Bs ((w1.alloc (.cells #[.slice (some ⟨G1, 0, none⟩) xs.length xs.length] 25)).setCell ⟨G1, 0, none⟩ (.int .i64 xk)).drew base Pb M B v' n qs := ((HZ.out.bs.later hb1a).set hap1 (by simp only [ne_eq] at *; omega)).later (Below.refl _ _).drew
       have hr4 : IRow ((w1.alloc (.cells #[.slice (some ⟨G1, 0, none⟩) xs.length xs.length] 25)).setCell ⟨G1, 0, none⟩ (.int .i64 xk)).drew G1 lo := by rw [HLO.out]; exact hr2.set 0 xk
       have h9 : ((w1.alloc (.cells #[.slice (some ⟨G1, 0, none⟩) xs.length xs.length] 25)).setCell ⟨G1, 0, none⟩ (.int .i64 xk)).drew.cell? ⟨w1.heap.size, 0, none⟩ = some (.slice (some ⟨G1, 0, none⟩) xs.length xs.length) := cell_set_far c9 (by simp only [ne_eq]; omega)
       have hs4 : w1.heap.size < ((w1.alloc (.cells #[.slice (some ⟨G1, 0, none⟩) xs.length xs.length] 25)).setCell ⟨G1, 0, none⟩ (.int .i64 xk)).drew.heap.size := by simp
       have HM := hide (And.intro hG4 (And.intro hbs4 (And.intro hr4 (And.intro h9 (And.intro hap1 (And.intro hG1 (And.intro hlr (And.intro hb1.size hs4))))))))
       have HD := hide (HDF.out _ G1 hbs4 (la_row hr4 hap1) (HY2.out.gon hG4))
       have c04 := hG4.cell c0 HZ.out.a0
       have hlen0 : (0 : Int) < (xs.length : Int) := by omega
       clear hb1a hr2 x0 HRR c7 c0 HX2 HY2 hap1 hG4 hbs4 hr4 HDF hlr hG1 hP hs7 hs4
       generalize ((List.range xs.length).map fun q : Nat => atL le ((q : Int) - 1))[0]'(by simpa using h0) = old at *
       clear hr1 hb1
       go_wp2_with fail
       generalize hW3 : (w1.alloc (.cells #[.slice (some ⟨G1, 0, none⟩) xs.length xs.length] 25)) = W3 at *
       go_region
       generalize (W3.setCell ⟨G1, 0, none⟩ (.int .i64 xk)).drew = W4 at *
       clear g1 g2 x1 c9 hW3
       go_wp2_with fail
       refine HD.out.mono ?_
       rintro e w5 ⟨v5, G2, rfl, hG2, hr5, hbs5, hgn5, hap5⟩
       obtain ⟨m1, m2, m3, m4, m5, m6, m7, m8, m9⟩ := HM.out
       have hb6 : Below w5.heap.size w5 ((w5.alloc (.cells #[.slice (some ⟨G2, 0, none⟩) xs.length xs.length] 25)).alloc (.cells #[.int .i64 fits] 3)) := bal (bal (Below.refl _ _) _) _
       have hgT : Gon base M B wr v' ((w5.alloc (.cells #[.slice (some ⟨G2, 0, none⟩) xs.length xs.length] 25)).alloc (.cells #[.int .i64 fits] 3)) v5 := m1.trans (hgn5.trans (gon_quiet (hb6.mono hbs5.hb) hb6))
       have hO6 := HO.out.gone hgT
       have hZ6 := HZ.out.gone hgT (hbs5.later hb6)
       obtain ⟨o1, o2⟩ := hO6.ro k (by rw [HEL.out.1]; exact hkl)
       have hOw := HO.out.lO
       have hOh := HO.out.hO
       have hPP := HZ.out.hP
       have hs5 := hgn5.bel.size
       have hl2 := irow_lt hr5 (by rw [HRL.out.1]; exact h0)
       have hl1 : G1 < W4.heap.size := by omega
       have hbs7 : Bs (((w5.alloc (.cells #[.slice (some ⟨G2, 0, none⟩) xs.length xs.length] 25)).alloc (.cells #[.int .i64 fits] 3)).setCell ⟨O, k, none⟩ (.int .i64 fits)) base Pb M B v5 n q2 := (hbs5.later hb6).set hO6.ao (by simp only [ne_eq]; omega)
       have d0 : (((w5.alloc (.cells #[.slice (some ⟨G2, 0, none⟩) xs.length xs.length] 25)).alloc (.cells #[.int .i64 fits] 3)).setCell ⟨O, k, none⟩ (.int .i64 fits)).cell? ⟨w.heap.size, 0, none⟩ = some (.pointer (some ⟨Pb, 0, none⟩)) := cell_set_far hZ6.c0 (by simp only [ne_eq]; omega)
       have d11 : (((w5.alloc (.cells #[.slice (some ⟨G2, 0, none⟩) xs.length xs.length] 25)).alloc (.cells #[.int .i64 fits] 3)).setCell ⟨O, k, none⟩ (.int .i64 fits)).cell? ⟨w5.heap.size + 1, 0, none⟩ = some (.int .i64 fits) := cell_set_far (by simp [go_sem]) (by simp only [ne_eq]; omega)
       have d10 : (((w5.alloc (.cells #[.slice (some ⟨G2, 0, none⟩) xs.length xs.length] 25)).alloc (.cells #[.int .i64 fits] 3)).setCell ⟨O, k, none⟩ (.int .i64 fits)).cell? ⟨w5.heap.size, 0, none⟩ = some (.slice (some ⟨G2, 0, none⟩) xs.length xs.length) := cell_set_far (by simp [go_sem]) (by simp only [ne_eq]; omega)
       have a9 := HZ.out.bs.bm.new m8
       have d9 : (((w5.alloc (.cells #[.slice (some ⟨G2, 0, none⟩) xs.length xs.length] 25)).alloc (.cells #[.int .i64 fits] 3)).setCell ⟨O, k, none⟩ (.int .i64 fits)).cell? ⟨w1.heap.size, 0, none⟩ = some (.slice (some ⟨G1, 0, none⟩) xs.length xs.length) := cell_set_far (cell_later hb6 (hgn5.cell m4 a9)) (by simp only [ne_eq]; omega)
       have rlo : IRow (((w5.alloc (.cells #[.slice (some ⟨G2, 0, none⟩) xs.length xs.length] 25)).alloc (.cells #[.int .i64 fits] 3)).setCell ⟨O, k, none⟩ (.int .i64 fits)) G1 lo := irow_far ((irow_gon m3 hgn5 m5 hl1).kept (hb6.block _ (by omega))) (by simp only [ne_eq]; omega) _
       have rre : IRow (((w5.alloc (.cells #[.slice (some ⟨G2, 0, none⟩) xs.length xs.length] 25)).alloc (.cells #[.int .i64 fits] 3)).setCell ⟨O, k, none⟩ (.int .i64 fits)) G2 rest := irow_far (hr5.kept (hb6.block _ hl2)) (by simp only [ne_eq]; omega) _
       have HP7 := hide (HPK.out _ v5 G1 G2 w1.heap.size w5.heap.size (w5.heap.size + 1) hbs7 d0 d11 d10 d9 (la_row rre hap5) (la_row rlo (hgn5.far _ hl1 m5).2) hZ6.a0 (hbs5.bm.new (by omega)) (hbs5.bm.new (Nat.le_refl _)) (hgn5.far _ m9 a9).2)
       have q11 : ((w5.alloc (.cells #[.slice (some ⟨G2, 0, none⟩) xs.length xs.length] 25)).alloc (.cells #[.int .i64 fits] 3)).cell? ⟨w5.heap.size + 1, 0, none⟩ = some (.int .i64 fits) := by simp [go_sem]
       have HZ7 := hide (hZ6.set HI.out.2.2.2.2.1.hb (q := ⟨O, k, none⟩) (by simp only; omega) (by simp only [ne_eq]; exact HO.out.ne) hO6.ao (.int .i64 fits))
       have HO7 := hide (hO6.set k fits)
       have q0 := hZ6.c0
       have hsz7 : (((w5.alloc (.cells #[.slice (some ⟨G2, 0, none⟩) xs.length xs.length] 25)).alloc (.cells #[.int .i64 fits] 3)).setCell ⟨O, k, none⟩ (.int .i64 fits)).heap.size = w5.heap.size + 2 := by simp
       have HSZ := hide hsz7
       clear hsz7
       have hs9 : w.heap.size + 1 < w5.heap.size := by omega
       have hOs : O < w5.heap.size := by omega
       clear hbs7 d0 d11 d10 d9 a9 rlo rre hb6 hgT hO6 hZ6 HPK HD HZ HO hr5 hbs5 hgn5 hap5 m1 m2 m3 m4 m5 m6 m7 m8 m9 HM hOw hOh hPP hs5 hl2 hl1 HLO hG2 c04
       generalize of[k]'(by rw [HEL.out.1]; exact hkl) = old2 at *
       go_upto_region 8 with fail
       generalize ((w5.alloc (.cells #[.slice (some ⟨G2, 0, none⟩) xs.length xs.length] 25)).alloc (.cells #[.int .i64 fits] 3)) = w6 at *
       go_wp2_with fail
       generalize w6.setCell ⟨O, k, none⟩ (.int .i64 fits) = w7 at *
       refine HP7.out.mono ?_
       rintro e w8 ⟨v8, rfl, hr8, hbs8, hgn8, hap8⟩
       have hZ8 := HZ7.out.gone hgn8 hbs8
       have hO8 := HO7.out.gone hgn8
       have z7 := hZ8.c7
       have zf := hZ8.f7
       have hl8 := irow_lt hr8 (by rw [HRL.out.2.2]; exact h0)
       have HF := hide (And.intro (hZ8.put HI.out.2.2.2.2.1.hb hr8 hap8 (by have := HSZ.out; omega) hl8) (hO8.put (L2 := w7.heap.size) (x := .slice (some ⟨w7.heap.size, 0, none⟩) xs.length xs.length) (by have := HSZ.out; omega)))
       clear hr8 hbs8 hgn8 hap8 hZ8 hO8 HZ7 HO7 HP7 q0 q11 o1 o2
       go_wp2_with fail
       go_roundw
       case rel => exact ⟨j + 1, v8, w7.heap.size, by omega, by have := HKK.out.2; go_num, by rw [HE.out]; exact HF.out.1, by rw [HE.out]; exact HF.out.2⟩
       case measure => have := HKK.out.2; simp [intOf]
     · obtain rfl : j = xs.length := by omega
       have c7 := HZ.out.c7
       have f7 := HZ.out.f7
       have HF := hide (And.intro (HZ.out.put HI.out.2.2.2.2.1.hb HZ.out.rl HZ.out.al HZ.out.hL HZ.out.lL) (HO.out.put (L2 := L) (x := .slice (some ⟨L, 0, none⟩) xs.length xs.length) HO.out.ne))
       clear HZ HO
       go_wp2_with fail
       go_region
       have HF2 := hide (And.intro (HF.out.1.later (Below.refl _ _).drew) (HF.out.2.gone (base := base) (gon_quiet (Below.refl _ _).drew (Below.refl _ _).drew)))
       clear HF
       generalize (wr.setCell ⟨w.heap.size + 1, 0, none⟩ (.slice (some ⟨L, 0, none⟩) xs.length xs.length)).drew = w9 at *
       have y7 := HF2.out.1.c7
       go_wp2_with fail
       refine bodyPost_ret (v := .tuple #[.slice (some ⟨O, 0, none⟩) xs.length xs.length, .slice (some ⟨L, 0, none⟩) xs.length xs.length]) (by simp [results, Tryz.results126, go_sem, y7]) rfl ?_
       exact ⟨v', O, L, rfl, ⟨by have := HF2.out.2.hO; omega, by have := HF2.out.1.hL; omega⟩, HF2.out.2.ro, HF2.out.1.rl, HF2.out.1.bs, HF2.out.1.gon, HF2.out.2.ao, HF2.out.1.al⟩
end Go.Proofs.YtabnimgpednhjabGreat.Gg

namespace Go.Proofs.YtabnimgpednhjabGreat.Gg
open Go.RowKit Go.Maps Go.WideMaps
set_option maxRecDepth 100000
def calcN (k : Int) (len a b : Nat) : Nat :=
 if k = 5 then (2 ^ len - a) % 2 ^ len else if k = 9 then (a + b) % 2 ^ len else if k = 10 then (a + 2 ^ len - b) % 2 ^ len else if k = 11 then a * b % 2 ^ len
 else if k = 12 then (if b = 0 then 2 ^ len - 1 else a / b) else if k = 13 then (if b = 0 then a else a % b) else if k = 14 then a * 2 ^ b % 2 ^ len else a / 2 ^ b
theorem numW_const0 {ps : Gr} {bs : List Bool} {len : Nat} : numW ps bs (bitsC 0 len) = 0 := by
 have := @num_const ps bs 0 len (by omega) (by have := Int.pow_pos (n := 2) (m := len) (by omega); exact this)
 omega
theorem bitsC_len (x : Int) (len : Nat) : (bitsC x len).length = len := by simp [bitsC]
theorem MadeS.word {w : World} {base Pb M B : Nat} {v : Value} {n len : Nat} {r : List Int × Int × Gr} {e : Ending} {w' : World} (h : MadeS w base Pb M B v n len r e w') :
   ∃ v' G, e = .returned (.tuple #[.slice (some ⟨G, 0, none⟩) len len, .int .i64 r.2.1]) ∧ LA w' M B v' (some ⟨G, 0, none⟩) r.1 ∧ Bs w' base Pb M B v' n r.2.2 ∧ Gon base M B w v w' v' := by
 obtain ⟨v', G, he, _, hr, hb, hg, ha⟩ := h
 exact ⟨v', G, he, la_row hr ha, hb, hg⟩
theorem div_num {n : Nat} {ps : Gr} (hg : chkE n ps = 0) {xs ys : List Int} (hly : ys.length = xs.length) (hn : xs.length ≤ 8) (hl : ps.length + 1000 < 1000000) (hvx : Vals n ps xs) (hvy : Vals n ps ys) :
   DoesW n 1000 ps xs.length ((divL n xs ys ps xs.length).1, (divL n xs ys ps xs.length).2.2) (fun bs => if numW ps bs ys = 0 then 2 ^ xs.length - 1 else numW ps bs xs / numW ps bs ys) ∧
     DoesW n 1000 ps xs.length ((divL n xs ys ps xs.length).2.1, (divL n xs ys ps xs.length).2.2) (fun bs => if numW ps bs ys = 0 then numW ps bs xs else numW ps bs xs % numW ps bs ys) := by
 obtain ⟨e1, e2, e3, e4, e5, e6⟩ := div_ok hg hly hn hl hvx hvy xs.length (Nat.le_refl _)
 have key : ∀ bs : List Bool, bs.length = n → DivIs xs.length (numW ps bs xs) (numW ps bs ys) (numW (divL n xs ys ps xs.length).2.2 bs (divL n xs ys ps xs.length).2.1) (numW (divL n xs ys ps xs.length).2.2 bs (divL n xs ys ps xs.length).1) := fun bs hb => by
   have h := e6 bs hb
   rw [Nat.sub_self, Nat.pow_zero, Nat.div_one] at h
   have e : numW (divL n xs ys ps xs.length).2.2 bs (divL n xs ys ps xs.length).1 = numB (fun i => sem (divL n xs ys ps xs.length).2.2 bs ((divL n xs ys ps xs.length).1.getD (i + 0) 0)) xs.length := by
     unfold numW; rw [e4]; rfl
   rw [e]; exact h
 refine ⟨⟨e1.more (by omega), e2, e4, fun bs hb => ?_⟩, ⟨e1.more (by omega), e3, e5, fun bs hb => ?_⟩⟩
 · have h := key bs hb
   by_cases hy : numW ps bs ys = 0
   · rw [if_pos hy]
     have := (h.zero hy).2
     simp only
     omega
   · rw [if_neg hy]; exact (h.pos (by omega)).2
 · have h := key bs hb
   by_cases hy : numW ps bs ys = 0
   · rw [if_pos hy]; exact (h.zero hy).1
   · rw [if_neg hy]; exact (h.pos (by omega)).1
set_option maxHeartbeats 2000000 in
theorem calc5_any {w : World} {base Pb M B : Nat} {v : Value} {n : Nat} {ps : Gr} (h : Bs w base Pb M B v n ps) {xs ys : List Int} {px py : Option Addr} {cx cy : Nat} (hx0 : 0 < xs.length) (hn : xs.length ≤ 8) (hl : ps.length + 1100 < 1000000)
   (hvx : Vals n ps xs) (hX : LA w M B v px xs) :
   Calls Tryz.prog 111 #[.pointer (some ⟨Pb, 0, none⟩), .int .i64 5, .slice px xs.length cx, .slice py ys.length cy] w (MadeP w base Pb M B v n xs.length px ((sumL n (bitsC 0 xs.length) (xs.map turn) 1 ps).1, (sumL n (bitsC 0 xs.length) (xs.map turn) 1 ps).2.2)) := by
 have HC := hide (constant_any 0 xs.length (by omega) (by omega) hn w)
 have HD := hide (fun (w1 : World) (G : Nat) (hr : IRow w1 G (bitsC 0 xs.length)) (hG : w.heap.size ≤ G) (hb : Below w.heap.size w w1) => difference_any (h.later hb) (xs := bitsC 0 xs.length) (ys := xs) (px := some ⟨G, 0, none⟩) (py := px) (cx := xs.length) (cy := cx) (by rw [bitsC_len]; exact Nat.le_refl _) (by rw [bitsC_len]; exact hn) hn (by rw [bitsC_len]; omega) vals_const hvx (la_row hr (h.bm.new hG)) (hX.later hb))
 unfold MadeS at HD
 simp only [bitsC_len] at HD
 have HB := hide h.hb
 clear h hX hvx
 generalize sumL n (bitsC 0 xs.length) (xs.map turn) 1 ps = S at *
 obtain ⟨sa, sc, sq⟩ := S
 unfold MadeP
 go_enter Tryz.func111, Tryz.ntmps111
 go_wp2_with fail
 refine HC.out.mono ?_
 rintro e w1 ⟨G, rfl, hG, hr, hb⟩
 have HR := hide (HD.out w1 G hr hG hb)
 have HG := hide (gon_quiet (v := v) (M := M) (B := B) (hb.mono HB.out) hb)
 clear HC HD hG hr hb
 go_wp2_with fail
 refine HR.out.mono ?_
 rintro e w2 ⟨v', G2, rfl, hG2, hr2, hbs, hgn, ha2⟩
 have HF := hide (And.intro (la_row hr2 ha2) (And.intro hbs (And.intro (HG.out.trans hgn) (fresh_new (w := w) (px := px) (off := 0) (Nat.le_trans HG.out.bel.size hG2)))))
 clear hr2 hbs hgn ha2 HR HG hG2
 go_wp2
 go_ret
 exact ⟨v', _, _, rfl, ⟨⟨Nat.le_refl _, by unfold maxLen; omega⟩, HF.out.2.2.2⟩, HF.out.1, HF.out.2.1, HF.out.2.2.1⟩
set_option maxHeartbeats 2000000 in
theorem calc9_any {w : World} {base Pb M B : Nat} {v : Value} {n : Nat} {ps : Gr} (h : Bs w base Pb M B v n ps) {xs ys : List Int} {px py : Option Addr} {cx cy : Nat} (hx0 : 0 < xs.length) (hn : xs.length ≤ 8) (hl : ps.length + 1100 < 1000000)
   (hvx : Vals n ps xs) (hX : LA w M B v px xs) (hly : ys.length = xs.length) (hvy : Vals n ps ys) (hY : LA w M B v py ys) :
   Calls Tryz.prog 111 #[.pointer (some ⟨Pb, 0, none⟩), .int .i64 9, .slice px xs.length cx, .slice py ys.length cy] w (MadeP w base Pb M B v n xs.length px ((sumL n xs ys 0 ps).1, (sumL n xs ys 0 ps).2.2)) := by
 have HC := hide (sum_any h (px := px) (py := py) (cx := cx) (cy := cy) (c := 0) (by omega) hn (by omega) hvx hvy (val_no _ _) hX hY)
 clear h hX hvx hY hvy hly
 unfold MadeS at HC
 generalize sumL n xs ys 0 ps = S at *
 obtain ⟨sa, sc, sq⟩ := S
 unfold MadeP
 go_enter Tryz.func111, Tryz.ntmps111
 go_wp2_with fail
 refine HC.out.mono ?_
 rintro e w2 ⟨v', G2, rfl, hG2, hr2, hbs, hgn, ha2⟩
 have HF := hide (And.intro (la_row hr2 ha2) (And.intro hbs (And.intro hgn (fresh_new (w := w) (px := px) (off := 0) hG2))))
 clear hr2 hbs hgn ha2 HC hG2
 go_wp2
 go_ret
 exact ⟨v', _, _, rfl, ⟨⟨Nat.le_refl _, by unfold maxLen; omega⟩, HF.out.2.2.2⟩, HF.out.1, HF.out.2.1, HF.out.2.2.1⟩
set_option maxHeartbeats 2000000 in
theorem calc10_any {w : World} {base Pb M B : Nat} {v : Value} {n : Nat} {ps : Gr} (h : Bs w base Pb M B v n ps) {xs ys : List Int} {px py : Option Addr} {cx cy : Nat} (hx0 : 0 < xs.length) (hn : xs.length ≤ 8) (hl : ps.length + 1100 < 1000000)
   (hvx : Vals n ps xs) (hX : LA w M B v px xs) (hly : ys.length = xs.length) (hvy : Vals n ps ys) (hY : LA w M B v py ys) :
   Calls Tryz.prog 111 #[.pointer (some ⟨Pb, 0, none⟩), .int .i64 10, .slice px xs.length cx, .slice py ys.length cy] w (MadeP w base Pb M B v n xs.length px ((sumL n xs (ys.map turn) 1 ps).1, (sumL n xs (ys.map turn) 1 ps).2.2)) := by
 have HC := hide (difference_any h (px := px) (py := py) (cx := cx) (cy := cy) (by omega) hn (by omega) (by omega) hvx hvy hX hY)
 clear h hX hvx hY hvy hly
 unfold MadeS at HC
 generalize sumL n xs (ys.map turn) 1 ps = S at *
 obtain ⟨sa, sc, sq⟩ := S
 unfold MadeP
 go_enter Tryz.func111, Tryz.ntmps111
 go_wp2_with fail
 refine HC.out.mono ?_
 rintro e w2 ⟨v', G2, rfl, hG2, hr2, hbs, hgn, ha2⟩
 have HF := hide (And.intro (la_row hr2 ha2) (And.intro hbs (And.intro hgn (fresh_new (w := w) (px := px) (off := 0) hG2))))
 clear hr2 hbs hgn ha2 HC hG2
 go_wp2
 go_ret
 exact ⟨v', _, _, rfl, ⟨⟨Nat.le_refl _, by unfold maxLen; omega⟩, HF.out.2.2.2⟩, HF.out.1, HF.out.2.1, HF.out.2.2.1⟩
set_option maxHeartbeats 2000000 in
theorem calc11_any {w : World} {base Pb M B : Nat} {v : Value} {n : Nat} {ps : Gr} (h : Bs w base Pb M B v n ps) {xs ys : List Int} {px py : Option Addr} {cx cy : Nat} (hx0 : 0 < xs.length) (hn : xs.length ≤ 8) (hl : ps.length + 1100 < 1000000)
   (hvx : Vals n ps xs) (hX : LA w M B v px xs) (hly : ys.length = xs.length) (hvy : Vals n ps ys) (hY : LA w M B v py ys) :
   Calls Tryz.prog 111 #[.pointer (some ⟨Pb, 0, none⟩), .int .i64 11, .slice px xs.length cx, .slice py ys.length cy] w (MadeP w base Pb M B v n xs.length px (prodL n xs ys ps ys.length)) := by
 have HC := hide (product_any h (px := px) (py := py) (cx := cx) (cy := cy) hn (by omega) (by omega) hvx hvy hX hY)
 clear h hX hvx hY hvy hly
 unfold MadeW at HC
 generalize prodL n xs ys ps ys.length = S at *
 obtain ⟨sa, sq⟩ := S
 unfold MadeP
 go_enter Tryz.func111, Tryz.ntmps111
 go_wp2_with fail
 refine HC.out.mono ?_
 rintro e w2 ⟨v', G2, rfl, hG2, hr, hbs, hgn, ha⟩
 have HF := hide (And.intro (la_row hr ha) (And.intro hbs (And.intro hgn (fresh_new (w := w) (px := px) (off := 0) hG2))))
 clear hr hbs hgn ha HC hG2
 go_wp2
 go_ret
 exact ⟨v', _, _, rfl, ⟨⟨Nat.le_refl _, by unfold maxLen; omega⟩, HF.out.2.2.2⟩, HF.out.1, HF.out.2.1, HF.out.2.2.1⟩
set_option maxHeartbeats 2000000 in
theorem calc12_any {w : World} {base Pb M B : Nat} {v : Value} {n : Nat} {ps : Gr} (h : Bs w base Pb M B v n ps) {xs ys : List Int} {px py : Option Addr} {cx cy : Nat} (hx0 : 0 < xs.length) (hn : xs.length ≤ 8) (hl : ps.length + 1100 < 1000000)
   (hvx : Vals n ps xs) (hX : LA w M B v px xs) (hly : ys.length = xs.length) (hvy : Vals n ps ys) (hY : LA w M B v py ys) :
   Calls Tryz.prog 111 #[.pointer (some ⟨Pb, 0, none⟩), .int .i64 12, .slice px xs.length cx, .slice py ys.length cy] w (MadeP w base Pb M B v n xs.length px ((divL n xs ys ps xs.length).1, (divL n xs ys ps xs.length).2.2)) := by
 have HC := hide (divide_any h (px := px) (py := py) (cx := cx) (cy := cy) hly hx0 hn (by omega) hvx hvy hX hY)
 clear h hX hvx hY hvy hly
 unfold MadeD at HC
 generalize divL n xs ys ps xs.length = S at *
 obtain ⟨sa, sc, sq⟩ := S
 unfold MadeP
 go_enter Tryz.func111, Tryz.ntmps111
 go_wp2_with fail
 refine HC.out.mono ?_
 rintro e w2 ⟨v', O, L, rfl, hOL, hr1, hr2, hbs, hgn, ha1, ha2⟩
 have HF := hide (And.intro (la_row hr1 ha1) (And.intro hbs (And.intro hgn (fresh_new (w := w) (px := px) (off := 0) hOL.1))))
 clear hr1 hr2 hbs hgn ha1 ha2 HC hOL
 go_wp2
 go_ret
 exact ⟨v', _, _, rfl, ⟨⟨Nat.le_refl _, by unfold maxLen; omega⟩, HF.out.2.2.2⟩, HF.out.1, HF.out.2.1, HF.out.2.2.1⟩
set_option maxHeartbeats 2000000 in
theorem calc13_any {w : World} {base Pb M B : Nat} {v : Value} {n : Nat} {ps : Gr} (h : Bs w base Pb M B v n ps) {xs ys : List Int} {px py : Option Addr} {cx cy : Nat} (hx0 : 0 < xs.length) (hn : xs.length ≤ 8) (hl : ps.length + 1100 < 1000000)
   (hvx : Vals n ps xs) (hX : LA w M B v px xs) (hly : ys.length = xs.length) (hvy : Vals n ps ys) (hY : LA w M B v py ys) :
   Calls Tryz.prog 111 #[.pointer (some ⟨Pb, 0, none⟩), .int .i64 13, .slice px xs.length cx, .slice py ys.length cy] w (MadeP w base Pb M B v n xs.length px ((divL n xs ys ps xs.length).2.1, (divL n xs ys ps xs.length).2.2)) := by
 have HC := hide (divide_any h (px := px) (py := py) (cx := cx) (cy := cy) hly hx0 hn (by omega) hvx hvy hX hY)
 clear h hX hvx hY hvy hly
 unfold MadeD at HC
 generalize divL n xs ys ps xs.length = S at *
 obtain ⟨sa, sc, sq⟩ := S
 unfold MadeP
 go_enter Tryz.func111, Tryz.ntmps111
 go_wp2_with fail
 refine HC.out.mono ?_
 rintro e w2 ⟨v', O, L, rfl, hOL, hr1, hr2, hbs, hgn, ha1, ha2⟩
 have HF := hide (And.intro (la_row hr2 ha2) (And.intro hbs (And.intro hgn (fresh_new (w := w) (px := px) (off := 0) hOL.2))))
 clear hr1 hr2 hbs hgn ha1 ha2 HC hOL
 go_wp2
 go_ret
 exact ⟨v', _, _, rfl, ⟨⟨Nat.le_refl _, by unfold maxLen; omega⟩, HF.out.2.2.2⟩, HF.out.1, HF.out.2.1, HF.out.2.2.1⟩
set_option maxHeartbeats 2000000 in
theorem calc14_any {w : World} {base Pb M B : Nat} {v : Value} {n : Nat} {ps : Gr} (h : Bs w base Pb M B v n ps) {xs ys : List Int} {px py : Option Addr} {cx cy : Nat} (hx0 : 0 < xs.length) (hn : xs.length ≤ 8) (hl : ps.length + 1100 < 1000000)
   (hvx : Vals n ps xs) (hX : LA w M B v px xs) (hly : ys.length = xs.length) (hvy : Vals n ps ys) (hY : LA w M B v py ys) (hcx : xs.length ≤ cx ∧ cx ≤ maxLen) :
   Calls Tryz.prog 111 #[.pointer (some ⟨Pb, 0, none⟩), .int .i64 14, .slice px xs.length cx, .slice py ys.length cy] w (MadeP w base Pb M B v n xs.length px (shiftL n xs ys 1 ps ys.length)) := by
 have HC := hide (shift_any h (px := px) (py := py) (cx := cx) (cy := cy) (way := 1) (by decide) hn (by omega) (by omega) hvx hvy hX hY hcx)
 clear h hX hvx hY hvy hly hcx
 unfold MadeP at HC
 generalize shiftL n xs ys 1 ps ys.length = S at *
 obtain ⟨sa, sq⟩ := S
 unfold MadeP
 go_enter Tryz.func111, Tryz.ntmps111
 go_wp2_with fail
 refine HC.out.mono ?_
 rintro e w2 ⟨v', p, cap, rfl, hcp, hla, hbs, hgn⟩
 have HF := hide (And.intro hla (And.intro hbs (And.intro hgn hcp)))
 clear hla hbs hgn HC hcp
 go_wp2
 go_ret
 exact ⟨v', p, cap, rfl, HF.out.2.2.2, HF.out.1, HF.out.2.1, HF.out.2.2.1⟩
set_option maxHeartbeats 2000000 in
theorem calc15_any {w : World} {base Pb M B : Nat} {v : Value} {n : Nat} {ps : Gr} (h : Bs w base Pb M B v n ps) {xs ys : List Int} {px py : Option Addr} {cx cy : Nat} (hx0 : 0 < xs.length) (hn : xs.length ≤ 8) (hl : ps.length + 1100 < 1000000)
   (hvx : Vals n ps xs) (hX : LA w M B v px xs) (hly : ys.length = xs.length) (hvy : Vals n ps ys) (hY : LA w M B v py ys) (hcx : xs.length ≤ cx ∧ cx ≤ maxLen) :
   Calls Tryz.prog 111 #[.pointer (some ⟨Pb, 0, none⟩), .int .i64 15, .slice px xs.length cx, .slice py ys.length cy] w (MadeP w base Pb M B v n xs.length px (shiftL n xs ys (-1) ps ys.length)) := by
 have HC := hide (shift_any h (px := px) (py := py) (cx := cx) (cy := cy) (way := (-1)) (by decide) hn (by omega) (by omega) hvx hvy hX hY hcx)
 clear h hX hvx hY hvy hly hcx
 unfold MadeP at HC
 generalize shiftL n xs ys (-1) ps ys.length = S at *
 obtain ⟨sa, sq⟩ := S
 unfold MadeP
 go_enter Tryz.func111, Tryz.ntmps111
 go_wp2_with fail
 refine HC.out.mono ?_
 rintro e w2 ⟨v', p, cap, rfl, hcp, hla, hbs, hgn⟩
 have HF := hide (And.intro hla (And.intro hbs (And.intro hgn hcp)))
 clear hla hbs hgn HC hcp
 go_wp2
 go_ret
 exact ⟨v', p, cap, rfl, HF.out.2.2.2, HF.out.1, HF.out.2.1, HF.out.2.2.1⟩
def calcR (n : Nat) (k : Int) (xs ys : List Int) (ps : Gr) : List Int × Gr :=
 if k = 5 then ((sumL n (bitsC 0 xs.length) (xs.map turn) 1 ps).1, (sumL n (bitsC 0 xs.length) (xs.map turn) 1 ps).2.2)
 else if k = 9 then ((sumL n xs ys 0 ps).1, (sumL n xs ys 0 ps).2.2) else if k = 10 then ((sumL n xs (ys.map turn) 1 ps).1, (sumL n xs (ys.map turn) 1 ps).2.2)
 else if k = 11 then prodL n xs ys ps ys.length else if k = 12 then ((divL n xs ys ps xs.length).1, (divL n xs ys ps xs.length).2.2)
 else if k = 13 then ((divL n xs ys ps xs.length).2.1, (divL n xs ys ps xs.length).2.2) else if k = 14 then shiftL n xs ys 1 ps ys.length else shiftL n xs ys (-1) ps ys.length
theorem calc_does {n : Nat} {ps : Gr} (hg : chkE n ps = 0) {xs ys : List Int} (hn : xs.length ≤ 8) (hl : ps.length + 1100 < 1000000) (hvx : Vals n ps xs) {k : Int} (hk : k = 5 ∨ (k = 9 ∨ k = 10 ∨ k = 11 ∨ k = 12 ∨ k = 13 ∨ k = 14 ∨ k = 15) ∧ ys.length = xs.length ∧ Vals n ps ys) :
   DoesW n 1000 ps xs.length (calcR n k xs ys ps) (fun bs => calcN k xs.length (numW ps bs xs) (numW ps bs ys)) := by
 rcases hk with rfl | ⟨hk, hly, hvy⟩
 · have hd := (diffL_does hg (xs := bitsC 0 xs.length) (ys := xs) (by rw [bitsC_len]) (by rw [bitsC_len]; exact hn) (by omega) vals_const hvx).1
   rw [bitsC_len] at hd
   exact (hd.more (by omega)).to fun bs _ => by rw [numW_const0, Nat.zero_add]; rfl
 · rcases hk with rfl | rfl | rfl | rfl | rfl | rfl | rfl
   · exact ((sumL_does hg hly hn (by omega) hvx hvy (val_no _ _)).more (by omega)).to fun bs _ => by rw [sem_no]; rfl
   · exact ((diffL_does hg hly hn (by omega) hvx hvy).1.more (by omega)).to fun bs _ => rfl
   · exact ((prod_does hg hn (by omega) (by omega) hvx hvy).more (by omega)).to fun bs _ => rfl
   · exact (div_num hg hly hn (by omega) hvx hvy).1.to fun bs _ => rfl
   · exact (div_num hg hly hn (by omega) hvx hvy).2.to fun bs _ => rfl
   · exact ((shift_does hg (way := 1) (by decide) hn (by omega) (by omega) hvx hvy).more (by omega)).to fun bs _ => rfl
   · exact ((shift_does hg (way := -1) (by decide) hn (by omega) (by omega) hvx hvy).more (by omega)).to fun bs _ => rfl
theorem calc_any {w : World} {base Pb M B : Nat} {v : Value} {n : Nat} {ps : Gr} (h : Bs w base Pb M B v n ps) {xs ys : List Int} {px py : Option Addr} {cx cy : Nat} (hx0 : 0 < xs.length) (hn : xs.length ≤ 8) (hl : ps.length + 1100 < 1000000)
   (hvx : Vals n ps xs) (hX : LA w M B v px xs) {k : Int} (hcx : xs.length ≤ cx ∧ cx ≤ maxLen) (hk : k = 5 ∨ (k = 9 ∨ k = 10 ∨ k = 11 ∨ k = 12 ∨ k = 13 ∨ k = 14 ∨ k = 15) ∧ ys.length = xs.length ∧ Vals n ps ys ∧ LA w M B v py ys) :
   Calls Tryz.prog 111 #[.pointer (some ⟨Pb, 0, none⟩), .int .i64 k, .slice px xs.length cx, .slice py ys.length cy] w (MadeP w base Pb M B v n xs.length px (calcR n k xs ys ps)) := by
 rcases hk with rfl | ⟨hk, hly, hvy, hY⟩
 · exact calc5_any h hx0 hn hl hvx hX
 · rcases hk with rfl | rfl | rfl | rfl | rfl | rfl | rfl
   · exact calc9_any h hx0 hn hl hvx hX hly hvy hY
   · exact calc10_any h hx0 hn hl hvx hX hly hvy hY
   · exact calc11_any h hx0 hn hl hvx hX hly hvy hY
   · exact calc12_any h hx0 hn hl hvx hX hly hvy hY
   · exact calc13_any h hx0 hn hl hvx hX hly hvy hY
   · exact calc14_any h hx0 hn hl hvx hX hly hvy hY hcx
   · exact calc15_any h hx0 hn hl hvx hX hly hvy hY hcx
end Go.Proofs.YtabnimgpednhjabGreat.Gg

namespace Go.Proofs.YtabnimgpednhjabGreat.Gg
open Go.RowKit Go.Lib Go.Maps Go.WideMaps
set_option maxRecDepth 100000
structure Row where
 at' : Option Addr
 ns : List Int
 cap : Nat
def Row.v (r : Row) : Value := .slice r.at' r.ns.length r.cap
def RowsAt (w : World) (p : Option Addr) (l : List Row) : Prop := 0 < l.length → ∃ b off, p = some ⟨b, off, none⟩ ∧ ∀ i (hi : i < l.length), w.cell? ⟨b, off + i, none⟩ = some l[i].v
theorem RowsAt.later {w w' : World} {p : Option Addr} {l : List Row} (h : RowsAt w p l) (hb : Below w.heap.size w w') : RowsAt w' p l := fun h0 => by
 obtain ⟨b, off, h1, h2⟩ := h h0
 exact ⟨b, off, h1, fun i hi => cell_later hb (h2 i hi)⟩
set_option maxHeartbeats 2000000 in
theorem grow0_any (w : World) : Calls Tryz.prog 121 #[.slice none 0 0, .int .i64 0] w fun e w' => e = .returned (.slice none 0 0) ∧ w' = w := by
 go_enter Tryz.func121, Tryz.ntmps121
 go_wp2
 go_ret
 exact ⟨rfl, rfl⟩
set_option maxHeartbeats 2000000 in
theorem grow_any (n : Nat) (h0 : 0 < n) (hn : n ≤ 1000000000) (w : World) :
   Calls Tryz.prog 121 #[.slice none 0 0, .int .i64 n] w fun e w' => ∃ v, e = .returned v ∧ w'.ownsRow w.heap.size 3 1 v 0 [] ∧ Below w.heap.size w w' := by
 obtain ⟨i0, hi, hz, hs, hby⟩ := info_parts info3
 have hold : (Builtin.firstCells i0.size 0 (.slice none 0 0)).run Tryz.prog w.drew = .ok ([] : List Value).toArray w.drew := run_firstCells_none w.drew i0.size 0 0 0
 have hG : n ≤ grownCap w n 0 3 := grownCap_ge w _ _ _
 have hG2 := grownCap_le_maxLen w n 0 3 (by unfold maxLen; omega)
 have hrz : ∀ ty, (Builtin.append_ #[25, 3] ty #[.slice none 0 0, .int .i64 (n : Int)]).run Tryz.prog w =
     .ok (.slice (some ⟨w.heap.size, 0, none⟩) n (grownCap w n 0 3)) (w.drew.alloc (.cells (([] : List Value).toArray ++ Builtin.zeroCells (Value.int .i64 0).cells n ++ Builtin.zeroCells (Value.int .i64 0).cells (grownCap w n 0 3 - n)) 3)) := fun ty => by
   have h := Lib.run_append_grow_zeros w 25 3 ty 3 i0 (.int .i64 0) .i64 .i64 Tryz.underlying25 Tryz.underlying3 hi hz none 0 0 [] hold n h0 (by omega) (by omega) (by omega) (by rw [hby]; omega) (by rw [Nat.zero_add]; exact growslice_fits h0 (by rw [hby]; omega))
   simpa using h
 generalize grownCap w n 0 3 = G at *
 have hw1 : ¬ ((n : Int) < 0) := by omega
 have hw2 : wrap64 ((n : Int) - 0) = n := by unfold wrap64; omega
 have hgt : (n : Int) > 0 := by omega
 clear hold hi hz
 go_enter Tryz.func121, Tryz.ntmps121
 go_wp2_with (at_builtin; refine Lib.wpList_append_run _ rfl _ _ _ _ rfl _ _ rfl rfl _ _ (hrz _) ?_)
 go_ret
 refine ⟨_, rfl, ⟨rfl, Or.inr ⟨w.heap.size, G, _, rfl, Nat.le_refl _, heap_alloc_new w _, Nat.zero_le _, hG2, ?_, ?_⟩⟩, ((Below.refl w.heap.size w).alloc (Nat.le_refl _) _).drew⟩
 · simp [Builtin.zeroCells]
   omega
 · simp
theorem owns_cap {w : World} {base n cap : Nat} {p : Option Addr} {L : List Value} (h : w.ownsRow base 3 1 (.slice p n cap) n L) : n ≤ cap ∧ cap ≤ maxLen := by
 obtain ⟨h1, h2⟩ := h
 rcases h2 with ⟨e, h0⟩ | ⟨g, cap', cur, e, hg, hh, hn, hm, hs, ht⟩
 · simp only [Value.slice.injEq] at e
   unfold maxLen; omega
 · simp only [Value.slice.injEq] at e
   omega
def flatN (l : List Row) (k : Nat) : List Int := (l.take k).flatMap Row.ns
theorem flatN_succ (l : List Row) (k : Nat) (h : k < l.length) : flatN l (k + 1) = flatN l k ++ l[k].ns := by
 unfold flatN
 rw [List.take_succ_eq_append_getElem h, List.flatMap_append]
 simp
theorem flatN_all (l : List Row) : flatN l l.length = l.flatMap Row.ns := by simp [flatN]
theorem flatN_zero (l : List Row) : flatN l 0 = [] := by simp [flatN]
theorem flatN_le (l : List Row) (h : ∀ r ∈ l, r.ns.length ≤ 20) (k : Nat) (hk : k ≤ l.length) : (flatN l k).length ≤ 20 * k := by
 induction k with
 | zero => simp [flatN]
 | succ k ih =>
   rw [flatN_succ l k (by omega), List.length_append]
   have := h _ (List.getElem_mem (show k < l.length by omega))
   have := ih (by omega)
   omega
theorem growN_any (n : Nat) (hn : n ≤ 1000000000) (w : World) : Calls Tryz.prog 121 #[.slice none 0 0, .int .i64 n] w fun e w' => ∃ v, e = .returned v ∧ w'.ownsRow w.heap.size 3 1 v 0 [] ∧ Below w.heap.size w w' := by
 by_cases h0 : 0 < n
 · exact grow_any n h0 hn w
 · obtain rfl : n = 0 := by omega
   exact (grow0_any w).mono fun e w' ⟨h1, h2⟩ => by
     subst h2
     exact ⟨_, h1, World.ownsRow_nil _ _ _ _, Below.refl _ _⟩
set_option maxHeartbeats 4000000 in
theorem concat_any (l : List Row) (p : Option Addr) (cap : Nat) (w : World) (hl : l.length ≤ 1000) (h20 : ∀ r ∈ l, r.ns.length ≤ 20) (hR : RowsAt w p l) (hIn : ∀ r ∈ l, IntsAt w r.at' r.ns ∧ (r.at' = none → r.cap = 0)) :
   Calls Tryz.prog 104 #[.slice p l.length cap] w fun e w' => ∃ q k, e = .returned (.slice q (l.flatMap Row.ns).length k) ∧ IntsAt w' q (l.flatMap Row.ns) ∧ (q = none → k = 0) ∧ (∀ g off, q = some ⟨g, off, none⟩ → w.heap.size ≤ g) ∧ ((l.flatMap Row.ns).length ≤ k ∧ k ≤ maxLen) ∧ Below w.heap.size w w' := by
 have HR := hide hR
 have HIN := hide hIn
 have HLE := hide (flatN_le l h20)
 have HFA := hide (flatN_all l)
 generalize l.flatMap Row.ns = F at *
 clear hR hIn h20
 go_enter Tryz.func104, Tryz.ntmps104
 go_wp2
 go_loopw [3, 11] (fun s i wr => ∃ k : Nat, k ≤ l.length ∧ i = .int .i64 k ∧ s = .int .i64 (flatN l k).length ∧ wr = w) (fun _ i _ => l.length - (intOf i).toNat)
 case atStart => exact ⟨0, Nat.zero_le _, rfl, by rw [flatN_zero]; rfl, rfl⟩
 case round =>
   obtain ⟨k, hk, rfl, rfl, hw⟩ := hrel
   have hw' := hw.symm
   subst hw'
   clear hw
   by_cases hlt : k < l.length
   · obtain ⟨b, off, rfl, hc⟩ := HR.out (by omega)
     have hck := hc k hlt
     have hki : (k : Int) < (l.length : Int) := by omega
     have HS := hide (flatN_succ l k hlt)
     have h1 := HLE.out (k + 1) (by omega)
     rw [HS.out, List.length_append] at h1
     clear hc
     generalize l[k] = r at *
     obtain ⟨ra, rn, rc⟩ := r
     simp only [Row.v] at hck h1
     generalize hu : flatN l k = u at *
     have hge : ¬ ((u.length : Int) + (rn.length : Int) < 0) := by omega
     have hwr : wrap64 ((u.length : Int) + (rn.length : Int)) = (u.length : Int) + (rn.length : Int) := by unfold wrap64; omega
     clear hu
     go_wp2
     go_roundw
     case rel => exact ⟨k + 1, by omega, by go_num, by rw [HS.out, List.length_append]; simp, trivial⟩
     case measure => simp [intOf]; omega
   · obtain rfl : k = l.length := by omega
     have hki : ¬ (l.length : Int) < (l.length : Int) := by omega
     have h1 := HLE.out l.length (Nat.le_refl _)
     rw [HFA.out] at h1 ⊢
     have HG := hide (growN_any F.length (by omega) w)
     go_wp2_with fail
     refine HG.out.mono ?_
     rintro e w1 ⟨v, rfl, hown, hb1⟩
     have HO1 := hide hown
     have HB1 := hide hb1
     clear hown hb1 HG
     go_wp2
     go_loopw [6, 27] (fun v i w2 => ∃ k : Nat, k ≤ l.length ∧ i = .int .i64 k ∧ Hid (w2.ownsRow w.heap.size 3 1 v (flatN l k).length ((flatN l k).map (Value.int .i64))) ∧ Hid (Below w.heap.size w w2)) (fun _ i _ => l.length - (intOf i).toNat)
     case atStart => exact ⟨0, Nat.zero_le _, rfl, by rw [flatN_zero]; exact HO1.out, HB1⟩
     case round =>
       obtain ⟨k, hk, rfl, HO, HB⟩ := hrel
       by_cases hlt : k < l.length
       · obtain ⟨b, off, hpe, hc⟩ := (HR.out.later HB.out) (by omega)
         subst hpe
         have hck := hc k hlt
         have hkj : (k : Int) < (l.length : Int) := by omega
         have HS := hide (flatN_succ l k hlt)
         have h2 := HLE.out (k + 1) (by omega)
         rw [HS.out, List.length_append] at h2
         have HRI := hide (HIN.out l[k] (List.getElem_mem hlt))
         clear hc
         generalize l[k] = r at *
         obtain ⟨ra, rn, rc⟩ := r
         simp only [Row.v] at hck h2
         generalize hu : flatN l k = u at *
         have HI2 : Hid (IntsAt wr ra rn) := HRI.out.1.later HB.out
         clear hu
         go_wp2_with (at_builtin; refine wpList_append_ints rfl _ _ rfl w.heap.size _ u rn rfl HO.out _ _ rfl HI2.out HRI.out.2 (by omega) (HB.out.size) ?_)
         intro v' w6 hown6 hg6
         have HB6 := hide (HB.out.grown hg6 HB.out.size (fun j hj => (HO.out.lt j hj).1))
         have HO6 := hide (show w6.ownsRow w.heap.size 3 1 v' (flatN l (k + 1)).length ((flatN l (k + 1)).map (Value.int .i64)) by
           rw [HS.out]
           simpa using hown6)
         clear hown6 hg6 HO HB HI2
         go_wp2
         go_roundw
         case rel => exact ⟨k + 1, by omega, by go_num, HO6, HB6⟩
         case measure => simp [intOf]; omega
       · obtain rfl : k = l.length := by omega
         have hkj : ¬ (l.length : Int) < (l.length : Int) := by omega
         have hown := HO.out
         rw [HFA.out] at hown
         obtain ⟨pv, cv, rfl, hiv, hnv⟩ := owns_ints hown
         have HIV := hide (And.intro hiv (And.intro hnv (And.intro (fun g off (e : pv = some ⟨g, off, none⟩) => show w.heap.size ≤ g from by subst e; exact (hown.lt g rfl).1) (owns_cap hown))))
         clear hown hiv hnv HO
         go_wp2
         go_ret
         exact ⟨pv, cv, rfl, HIV.out.1, HIV.out.2.1, HIV.out.2.2.1, HIV.out.2.2.2, HB.out⟩
end Go.Proofs.YtabnimgpednhjabGreat.Gg
