import Derived.Test.YtabnimgpednhjabGreatFb
import Derived.Test.YtabnimgpednhjabGreatMnM
namespace Go.Proofs.YtabnimgpednhjabGreat.Gg
open Go.RowKit Go.Maps Go.WideMaps
set_option maxRecDepth 100000
set_option maxHeartbeats 2000000 in
theorem oper5_any {w : World} {base Pb M B : Nat} {v : Value} {n : Nat} {ps : Gr} (h : Bs w base Pb M B v n ps) {xs ys zs : List Int} {px py pz : Option Addr} {cx cy cz wd : Nat} {xa xb xc xn : Int} (hwd : 1 ≤ wd ∧ wd ≤ 8) (hl : ps.length + 1200 < 1000000) (hlx : xs.length = wd) (hvx : Vals n ps xs) (hX : LA w M B v px xs) (hcx : xs.length ≤ cx ∧ cx ≤ maxLen) :
   Calls Tryz.prog 86 #[.pointer (some ⟨Pb, 0, none⟩), .agg #[.int .i64 5, .int .i64 (wd : Nat), .int .i64 xa, .int .i64 xb, .int .i64 xc, .int .i64 xn], .slice px xs.length cx, .slice py ys.length cy, .slice pz zs.length cz] w (MadeP w base Pb M B v n wd px (calcR n 5 xs ys ps)) := by
 have hmf := mkf
 have HT := hide (fun (w1 : World) (hb : Below w.heap.size w w1) => (calc_any (h.later hb) (cx := cx) (cy := cy) (px := px) (py := py) (xs := xs) (ys := ys) (k := 5) (by omega) (by omega) (by omega) hvx (hX.later hb) hcx (Or.inl rfl)).mono (fun _ _ hm => madeP_P h hb hm))
 rw [hlx] at HT
 unfold MadeP at HT
 have HLX := hide hlx
 generalize calcR n 5 xs ys ps = R at *
 have HH := hide h
 clear h hvx hX hcx hlx
 rw [HLX.out]
 clear HH
 unfold MadeP
 go_enter Tryz.func86, Tryz.ntmps86
 go_wp2_with fail
 refine (HT.out _ (bal (bal (bal (bal (bal (Below.refl _ _) _) _) _) _) _)).mono ?_
 rintro e w2 ⟨v2, p2, c2, rfl, hf⟩
 have HF := hide hf
 clear hf HT
 go_wp2
 go_ret
 exact ⟨v2, p2, c2, rfl, HF.out⟩
set_option maxHeartbeats 2000000 in
theorem oper9_any {w : World} {base Pb M B : Nat} {v : Value} {n : Nat} {ps : Gr} (h : Bs w base Pb M B v n ps) {xs ys zs : List Int} {px py pz : Option Addr} {cx cy cz wd : Nat} {xa xb xc xn : Int} (hwd : 1 ≤ wd ∧ wd ≤ 8) (hl : ps.length + 1200 < 1000000) (hlx : xs.length = wd) (hvx : Vals n ps xs) (hX : LA w M B v px xs) (hcx : xs.length ≤ cx ∧ cx ≤ maxLen) (hly : ys.length = xs.length) (hvy : Vals n ps ys) (hY : LA w M B v py ys) :
   Calls Tryz.prog 86 #[.pointer (some ⟨Pb, 0, none⟩), .agg #[.int .i64 9, .int .i64 (wd : Nat), .int .i64 xa, .int .i64 xb, .int .i64 xc, .int .i64 xn], .slice px xs.length cx, .slice py ys.length cy, .slice pz zs.length cz] w (MadeP w base Pb M B v n wd px (calcR n 9 xs ys ps)) := by
 have hmf := mkf
 have HT := hide (fun (w1 : World) (hb : Below w.heap.size w w1) => (calc_any (h.later hb) (cx := cx) (cy := cy) (px := px) (py := py) (xs := xs) (ys := ys) (k := 9) (by omega) (by omega) (by omega) hvx (hX.later hb) hcx (Or.inr ⟨by decide, hly, hvy, hY.later hb⟩)).mono (fun _ _ hm => madeP_P h hb hm))
 rw [hlx] at HT
 unfold MadeP at HT
 have HLX := hide hlx
 generalize calcR n 9 xs ys ps = R at *
 have HH := hide h
 clear h hvx hX hcx hlx hvy hY hly
 rw [HLX.out]
 clear HH
 unfold MadeP
 go_enter Tryz.func86, Tryz.ntmps86
 go_wp2_with fail
 refine (HT.out _ (bal (bal (bal (bal (bal (Below.refl _ _) _) _) _) _) _)).mono ?_
 rintro e w2 ⟨v2, p2, c2, rfl, hf⟩
 have HF := hide hf
 clear hf HT
 go_wp2
 go_ret
 exact ⟨v2, p2, c2, rfl, HF.out⟩
set_option maxHeartbeats 2000000 in
theorem oper10_any {w : World} {base Pb M B : Nat} {v : Value} {n : Nat} {ps : Gr} (h : Bs w base Pb M B v n ps) {xs ys zs : List Int} {px py pz : Option Addr} {cx cy cz wd : Nat} {xa xb xc xn : Int} (hwd : 1 ≤ wd ∧ wd ≤ 8) (hl : ps.length + 1200 < 1000000) (hlx : xs.length = wd) (hvx : Vals n ps xs) (hX : LA w M B v px xs) (hcx : xs.length ≤ cx ∧ cx ≤ maxLen) (hly : ys.length = xs.length) (hvy : Vals n ps ys) (hY : LA w M B v py ys) :
   Calls Tryz.prog 86 #[.pointer (some ⟨Pb, 0, none⟩), .agg #[.int .i64 10, .int .i64 (wd : Nat), .int .i64 xa, .int .i64 xb, .int .i64 xc, .int .i64 xn], .slice px xs.length cx, .slice py ys.length cy, .slice pz zs.length cz] w (MadeP w base Pb M B v n wd px (calcR n 10 xs ys ps)) := by
 have hmf := mkf
 have HT := hide (fun (w1 : World) (hb : Below w.heap.size w w1) => (calc_any (h.later hb) (cx := cx) (cy := cy) (px := px) (py := py) (xs := xs) (ys := ys) (k := 10) (by omega) (by omega) (by omega) hvx (hX.later hb) hcx (Or.inr ⟨by decide, hly, hvy, hY.later hb⟩)).mono (fun _ _ hm => madeP_P h hb hm))
 rw [hlx] at HT
 unfold MadeP at HT
 have HLX := hide hlx
 generalize calcR n 10 xs ys ps = R at *
 have HH := hide h
 clear h hvx hX hcx hlx hvy hY hly
 rw [HLX.out]
 clear HH
 unfold MadeP
 go_enter Tryz.func86, Tryz.ntmps86
 go_wp2_with fail
 refine (HT.out _ (bal (bal (bal (bal (bal (Below.refl _ _) _) _) _) _) _)).mono ?_
 rintro e w2 ⟨v2, p2, c2, rfl, hf⟩
 have HF := hide hf
 clear hf HT
 go_wp2
 go_ret
 exact ⟨v2, p2, c2, rfl, HF.out⟩
set_option maxHeartbeats 2000000 in
theorem oper11_any {w : World} {base Pb M B : Nat} {v : Value} {n : Nat} {ps : Gr} (h : Bs w base Pb M B v n ps) {xs ys zs : List Int} {px py pz : Option Addr} {cx cy cz wd : Nat} {xa xb xc xn : Int} (hwd : 1 ≤ wd ∧ wd ≤ 8) (hl : ps.length + 1200 < 1000000) (hlx : xs.length = wd) (hvx : Vals n ps xs) (hX : LA w M B v px xs) (hcx : xs.length ≤ cx ∧ cx ≤ maxLen) (hly : ys.length = xs.length) (hvy : Vals n ps ys) (hY : LA w M B v py ys) :
   Calls Tryz.prog 86 #[.pointer (some ⟨Pb, 0, none⟩), .agg #[.int .i64 11, .int .i64 (wd : Nat), .int .i64 xa, .int .i64 xb, .int .i64 xc, .int .i64 xn], .slice px xs.length cx, .slice py ys.length cy, .slice pz zs.length cz] w (MadeP w base Pb M B v n wd px (calcR n 11 xs ys ps)) := by
 have hmf := mkf
 have HT := hide (fun (w1 : World) (hb : Below w.heap.size w w1) => (calc_any (h.later hb) (cx := cx) (cy := cy) (px := px) (py := py) (xs := xs) (ys := ys) (k := 11) (by omega) (by omega) (by omega) hvx (hX.later hb) hcx (Or.inr ⟨by decide, hly, hvy, hY.later hb⟩)).mono (fun _ _ hm => madeP_P h hb hm))
 rw [hlx] at HT
 unfold MadeP at HT
 have HLX := hide hlx
 generalize calcR n 11 xs ys ps = R at *
 have HH := hide h
 clear h hvx hX hcx hlx hvy hY hly
 rw [HLX.out]
 clear HH
 unfold MadeP
 go_enter Tryz.func86, Tryz.ntmps86
 go_wp2_with fail
 refine (HT.out _ (bal (bal (bal (bal (bal (Below.refl _ _) _) _) _) _) _)).mono ?_
 rintro e w2 ⟨v2, p2, c2, rfl, hf⟩
 have HF := hide hf
 clear hf HT
 go_wp2
 go_ret
 exact ⟨v2, p2, c2, rfl, HF.out⟩
set_option maxHeartbeats 2000000 in
theorem oper12_any {w : World} {base Pb M B : Nat} {v : Value} {n : Nat} {ps : Gr} (h : Bs w base Pb M B v n ps) {xs ys zs : List Int} {px py pz : Option Addr} {cx cy cz wd : Nat} {xa xb xc xn : Int} (hwd : 1 ≤ wd ∧ wd ≤ 8) (hl : ps.length + 1200 < 1000000) (hlx : xs.length = wd) (hvx : Vals n ps xs) (hX : LA w M B v px xs) (hcx : xs.length ≤ cx ∧ cx ≤ maxLen) (hly : ys.length = xs.length) (hvy : Vals n ps ys) (hY : LA w M B v py ys) :
   Calls Tryz.prog 86 #[.pointer (some ⟨Pb, 0, none⟩), .agg #[.int .i64 12, .int .i64 (wd : Nat), .int .i64 xa, .int .i64 xb, .int .i64 xc, .int .i64 xn], .slice px xs.length cx, .slice py ys.length cy, .slice pz zs.length cz] w (MadeP w base Pb M B v n wd px (calcR n 12 xs ys ps)) := by
 have hmf := mkf
 have HT := hide (fun (w1 : World) (hb : Below w.heap.size w w1) => (calc_any (h.later hb) (cx := cx) (cy := cy) (px := px) (py := py) (xs := xs) (ys := ys) (k := 12) (by omega) (by omega) (by omega) hvx (hX.later hb) hcx (Or.inr ⟨by decide, hly, hvy, hY.later hb⟩)).mono (fun _ _ hm => madeP_P h hb hm))
 rw [hlx] at HT
 unfold MadeP at HT
 have HLX := hide hlx
 generalize calcR n 12 xs ys ps = R at *
 have HH := hide h
 clear h hvx hX hcx hlx hvy hY hly
 rw [HLX.out]
 clear HH
 unfold MadeP
 go_enter Tryz.func86, Tryz.ntmps86
 go_wp2_with fail
 refine (HT.out _ (bal (bal (bal (bal (bal (Below.refl _ _) _) _) _) _) _)).mono ?_
 rintro e w2 ⟨v2, p2, c2, rfl, hf⟩
 have HF := hide hf
 clear hf HT
 go_wp2
 go_ret
 exact ⟨v2, p2, c2, rfl, HF.out⟩
set_option maxHeartbeats 2000000 in
theorem oper13_any {w : World} {base Pb M B : Nat} {v : Value} {n : Nat} {ps : Gr} (h : Bs w base Pb M B v n ps) {xs ys zs : List Int} {px py pz : Option Addr} {cx cy cz wd : Nat} {xa xb xc xn : Int} (hwd : 1 ≤ wd ∧ wd ≤ 8) (hl : ps.length + 1200 < 1000000) (hlx : xs.length = wd) (hvx : Vals n ps xs) (hX : LA w M B v px xs) (hcx : xs.length ≤ cx ∧ cx ≤ maxLen) (hly : ys.length = xs.length) (hvy : Vals n ps ys) (hY : LA w M B v py ys) :
   Calls Tryz.prog 86 #[.pointer (some ⟨Pb, 0, none⟩), .agg #[.int .i64 13, .int .i64 (wd : Nat), .int .i64 xa, .int .i64 xb, .int .i64 xc, .int .i64 xn], .slice px xs.length cx, .slice py ys.length cy, .slice pz zs.length cz] w (MadeP w base Pb M B v n wd px (calcR n 13 xs ys ps)) := by
 have hmf := mkf
 have HT := hide (fun (w1 : World) (hb : Below w.heap.size w w1) => (calc_any (h.later hb) (cx := cx) (cy := cy) (px := px) (py := py) (xs := xs) (ys := ys) (k := 13) (by omega) (by omega) (by omega) hvx (hX.later hb) hcx (Or.inr ⟨by decide, hly, hvy, hY.later hb⟩)).mono (fun _ _ hm => madeP_P h hb hm))
 rw [hlx] at HT
 unfold MadeP at HT
 have HLX := hide hlx
 generalize calcR n 13 xs ys ps = R at *
 have HH := hide h
 clear h hvx hX hcx hlx hvy hY hly
 rw [HLX.out]
 clear HH
 unfold MadeP
 go_enter Tryz.func86, Tryz.ntmps86
 go_wp2_with fail
 refine (HT.out _ (bal (bal (bal (bal (bal (Below.refl _ _) _) _) _) _) _)).mono ?_
 rintro e w2 ⟨v2, p2, c2, rfl, hf⟩
 have HF := hide hf
 clear hf HT
 go_wp2
 go_ret
 exact ⟨v2, p2, c2, rfl, HF.out⟩
set_option maxHeartbeats 2000000 in
theorem oper14_any {w : World} {base Pb M B : Nat} {v : Value} {n : Nat} {ps : Gr} (h : Bs w base Pb M B v n ps) {xs ys zs : List Int} {px py pz : Option Addr} {cx cy cz wd : Nat} {xa xb xc xn : Int} (hwd : 1 ≤ wd ∧ wd ≤ 8) (hl : ps.length + 1200 < 1000000) (hlx : xs.length = wd) (hvx : Vals n ps xs) (hX : LA w M B v px xs) (hcx : xs.length ≤ cx ∧ cx ≤ maxLen) (hly : ys.length = xs.length) (hvy : Vals n ps ys) (hY : LA w M B v py ys) :
   Calls Tryz.prog 86 #[.pointer (some ⟨Pb, 0, none⟩), .agg #[.int .i64 14, .int .i64 (wd : Nat), .int .i64 xa, .int .i64 xb, .int .i64 xc, .int .i64 xn], .slice px xs.length cx, .slice py ys.length cy, .slice pz zs.length cz] w (MadeP w base Pb M B v n wd px (calcR n 14 xs ys ps)) := by
 have hmf := mkf
 have HT := hide (fun (w1 : World) (hb : Below w.heap.size w w1) => (calc_any (h.later hb) (cx := cx) (cy := cy) (px := px) (py := py) (xs := xs) (ys := ys) (k := 14) (by omega) (by omega) (by omega) hvx (hX.later hb) hcx (Or.inr ⟨by decide, hly, hvy, hY.later hb⟩)).mono (fun _ _ hm => madeP_P h hb hm))
 rw [hlx] at HT
 unfold MadeP at HT
 have HLX := hide hlx
 generalize calcR n 14 xs ys ps = R at *
 have HH := hide h
 clear h hvx hX hcx hlx hvy hY hly
 rw [HLX.out]
 clear HH
 unfold MadeP
 go_enter Tryz.func86, Tryz.ntmps86
 go_wp2_with fail
 refine (HT.out _ (bal (bal (bal (bal (bal (Below.refl _ _) _) _) _) _) _)).mono ?_
 rintro e w2 ⟨v2, p2, c2, rfl, hf⟩
 have HF := hide hf
 clear hf HT
 go_wp2
 go_ret
 exact ⟨v2, p2, c2, rfl, HF.out⟩
set_option maxHeartbeats 2000000 in
theorem oper15_any {w : World} {base Pb M B : Nat} {v : Value} {n : Nat} {ps : Gr} (h : Bs w base Pb M B v n ps) {xs ys zs : List Int} {px py pz : Option Addr} {cx cy cz wd : Nat} {xa xb xc xn : Int} (hwd : 1 ≤ wd ∧ wd ≤ 8) (hl : ps.length + 1200 < 1000000) (hlx : xs.length = wd) (hvx : Vals n ps xs) (hX : LA w M B v px xs) (hcx : xs.length ≤ cx ∧ cx ≤ maxLen) (hly : ys.length = xs.length) (hvy : Vals n ps ys) (hY : LA w M B v py ys) :
   Calls Tryz.prog 86 #[.pointer (some ⟨Pb, 0, none⟩), .agg #[.int .i64 15, .int .i64 (wd : Nat), .int .i64 xa, .int .i64 xb, .int .i64 xc, .int .i64 xn], .slice px xs.length cx, .slice py ys.length cy, .slice pz zs.length cz] w (MadeP w base Pb M B v n wd px (calcR n 15 xs ys ps)) := by
 have hmf := mkf
 have HT := hide (fun (w1 : World) (hb : Below w.heap.size w w1) => (calc_any (h.later hb) (cx := cx) (cy := cy) (px := px) (py := py) (xs := xs) (ys := ys) (k := 15) (by omega) (by omega) (by omega) hvx (hX.later hb) hcx (Or.inr ⟨by decide, hly, hvy, hY.later hb⟩)).mono (fun _ _ hm => madeP_P h hb hm))
 rw [hlx] at HT
 unfold MadeP at HT
 have HLX := hide hlx
 generalize calcR n 15 xs ys ps = R at *
 have HH := hide h
 clear h hvx hX hcx hlx hvy hY hly
 rw [HLX.out]
 clear HH
 unfold MadeP
 go_enter Tryz.func86, Tryz.ntmps86
 go_wp2_with fail
 refine (HT.out _ (bal (bal (bal (bal (bal (Below.refl _ _) _) _) _) _) _)).mono ?_
 rintro e w2 ⟨v2, p2, c2, rfl, hf⟩
 have HF := hide hf
 clear hf HT
 go_wp2
 go_ret
 exact ⟨v2, p2, c2, rfl, HF.out⟩
structure Wm (w : World) (M B : Nat) (v : Value) (n : Nat) (ps : Gr) (p : Option Addr) (cap : Nat) (l : List Int) : Prop where
 la : LA w M B v p l
 cap : l.length ≤ cap ∧ cap ≤ maxLen
 vals : Vals n ps l
def operR (n : Nat) (k : Int) (wd : Nat) (xn : Int) (xs ys zs : List Int) (ps : Gr) : List Int × Gr :=
 if k = 1 then (bitsC xn wd, ps) else if k = 4 then (xs.map turn, ps)
 else if k = 6 then ((runS (zipS (bothG n) xs ys) () ps wd).1, (runS (zipS (bothG n) xs ys) () ps wd).2.2)
 else if k = 7 then ((runS (zipS (eitherG n) xs ys) () ps wd).1, (runS (zipS (eitherG n) xs ys) () ps wd).2.2)
 else if k = 8 then ((runS (zipS (differG n) xs ys) () ps wd).1, (runS (zipS (differG n) xs ys) () ps wd).2.2)
 else if k = 19 then ((runS (plainS (iteS n (xs.getD 0 0) ys zs)) () ps wd).1, (runS (plainS (iteS n (xs.getD 0 0) ys zs)) () ps wd).2.2)
 else if k = 20 then (ys ++ xs, ps) else if k = 21 then ((xs.drop xn.toNat).take wd, ps) else if k = 22 then ((List.range wd).map (fun q : Nat => atL xs (q : Int)), ps)
 else if k = 23 then ((List.range wd).map (spreadF xs), ps) else if k = 16 then ([(samesG n xs ys ps xs.length).1], (samesG n xs ys ps xs.length).2)
 else if k = 17 then ([(lessG n xs ys ps xs.length).1], (lessG n xs ys ps xs.length).2)
 else if k = 18 then ([(lessG n (upL xs) (upL ys) ps xs.length).1], (lessG n (upL xs) (upL ys) ps xs.length).2) else calcR n k xs ys ps
def fitW (k : Int) (wd : Nat) (xn : Int) (a b c : Nat) : Prop :=
 (k = 1 ∧ 0 ≤ xn ∧ xn < 2 ^ wd) ∨ ((k = 4 ∨ k = 5) ∧ a = wd) ∨ ((6 ≤ k ∧ k ≤ 15) ∧ a = wd ∧ b = wd) ∨ ((16 ≤ k ∧ k ≤ 18) ∧ 0 < a ∧ a ≤ 8 ∧ b = a ∧ wd = 1) ∨ (k = 19 ∧ a = 1 ∧ b = wd ∧ c = wd) ∨ (k = 20 ∧ 0 < a ∧ 0 < b ∧ a + b = wd)
   ∨ (k = 21 ∧ 0 ≤ xn ∧ xn + wd ≤ a ∧ a ≤ 8) ∨ ((k = 22 ∨ k = 23) ∧ 0 < a ∧ a ≤ wd)
theorem oper_any {w : World} {base Pb M B : Nat} {v : Value} {n : Nat} {ps : Gr} (h : Bs w base Pb M B v n ps) {xs ys zs : List Int} {px py pz : Option Addr} {cx cy cz wd : Nat} {k xa xb xc xn : Int} (hwd : 1 ≤ wd ∧ wd ≤ 8) (hl : ps.length + 1200 < 1000000)
   (hf : fitW k wd xn xs.length ys.length zs.length) (hX : Wm w M B v n ps px cx xs) (hY : Wm w M B v n ps py cy ys) (hZ : Wm w M B v n ps pz cz zs) :
   Calls Tryz.prog 86 #[.pointer (some ⟨Pb, 0, none⟩), .agg #[.int .i64 k, .int .i64 (wd : Nat), .int .i64 xa, .int .i64 xb, .int .i64 xc, .int .i64 xn], .slice px xs.length cx, .slice py ys.length cy, .slice pz zs.length cz] w (MadeP w base Pb M B v n wd px (operR n k wd xn xs ys zs ps)) := by
 rcases hf with ⟨rfl, h0, h1⟩ | ⟨hk, ha⟩ | ⟨hk, ha, hb⟩ | ⟨hk, ha0, ha8, hb, rfl⟩ | ⟨rfl, ha, hb, hc⟩ | ⟨rfl, ha, hb, hab⟩ | ⟨rfl, h0, h1, h8⟩ | ⟨hk, h0, h1⟩
 · have : (2 : Int) ^ wd ≤ 256 := by
     have h2 : wd = 1 ∨ wd = 2 ∨ wd = 3 ∨ wd = 4 ∨ wd = 5 ∨ wd = 6 ∨ wd = 7 ∨ wd = 8 := by omega
     rcases h2 with rfl | rfl | rfl | rfl | rfl | rfl | rfl | rfl <;> decide
   exact oper1_any h hwd h0 (by omega)
 · rcases hk with rfl | rfl
   · exact oper4_any h hwd hl ha hX.vals hX.la
   · exact oper5_any h hwd hl ha hX.vals hX.la hX.cap
 · have h2 : k = 6 ∨ k = 7 ∨ k = 8 ∨ k = 9 ∨ k = 10 ∨ k = 11 ∨ k = 12 ∨ k = 13 ∨ k = 14 ∨ k = 15 := by omega
   rcases h2 with rfl | rfl | rfl | rfl | rfl | rfl | rfl | rfl | rfl | rfl
   · exact oper6_any h hwd hl ha hb hX.vals hY.vals hX.la hY.la
   · exact oper7_any h hwd hl ha hb hX.vals hY.vals hX.la hY.la
   · exact oper8_any h hwd hl ha hb hX.vals hY.vals hX.la hY.la
   · exact oper9_any h hwd hl ha hX.vals hX.la hX.cap (by omega) hY.vals hY.la
   · exact oper10_any h hwd hl ha hX.vals hX.la hX.cap (by omega) hY.vals hY.la
   · exact oper11_any h hwd hl ha hX.vals hX.la hX.cap (by omega) hY.vals hY.la
   · exact oper12_any h hwd hl ha hX.vals hX.la hX.cap (by omega) hY.vals hY.la
   · exact oper13_any h hwd hl ha hX.vals hX.la hX.cap (by omega) hY.vals hY.la
   · exact oper14_any h hwd hl ha hX.vals hX.la hX.cap (by omega) hY.vals hY.la
   · exact oper15_any h hwd hl ha hX.vals hX.la hX.cap (by omega) hY.vals hY.la
 · have h2 : k = 16 ∨ k = 17 ∨ k = 18 := by omega
   rcases h2 with rfl | rfl | rfl
   · exact oper16_any h hl ha8 hb hX.vals hY.vals hX.la hY.la
   · exact oper17_any h hl ha8 hb hX.vals hY.vals hX.la hY.la
   · exact oper18_any h hl ha8 hb hX.vals hY.vals hX.la hY.la
 · exact oper19_any h hwd hl ha hb hc hX.vals hY.vals hZ.vals hX.la hY.la hZ.la
 · exact oper20_any h hwd (by omega) ha hb hX.la hY.la
 · have hn : xn = ((xn.toNat : Nat) : Int) := by omega
   have := oper21_any h (zs := zs) (ys := ys) (py := py) (pz := pz) (cy := cy) (cz := cz) (xa := xa) (xb := xb) (xc := xc) hwd (a := xn.toNat) (by omega) h8 hX.cap hX.la
   rw [← hn] at this
   exact this
 · rcases hk with rfl | rfl
   · exact oper22_any h hwd hX.la
   · exact oper23_any h hwd h0 (by omega) hX.la
end Go.Proofs.YtabnimgpednhjabGreat.Gg
