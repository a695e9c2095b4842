/- Steps that differ: nothing is bad but at the last one. -/
import Derived.Test.YtjhkecnnhddhbaaGreatDoorKjM
namespace Go.Proofs.YtjhkecnnhddhbaaGreatDoor
open Go.RowKit Go.Maps Go.WideMaps
set_option maxRecDepth 100000
def quietC (C : Ci) (t i : Nat) : List (List Int) := rootC (turn (atL C.f t (C.b.ns.getD i 0)))
def quietT (C : Ci) (t : Nat) : List (List Int) := stepsL (quietC C t) C.b.ns.length
set_option maxHeartbeats 8000000 in
theorem quietStep_any (w0 : World) (M : Nat) (C : Ci) (last : Nat) (hC : COk w0 C last) (U G : Nat) (t : Nat) (ht : t ≤ last) (w : World) (v : Value) (vars : Int) (rs : List Row)
   (hU : Un w0 w M v vars rs C last) (hB : Bxs w v M [(⟨U, 0, none⟩, .pointer (some ⟨M, 0, none⟩)), (⟨G, 0, none⟩, C.b.v)]) (hl : rs.length + (quietT C t).length ≤ 800000) :
   Calls Tryz.prog 155 #[.int .i64 t, .pointer (some ⟨G, 0, none⟩), .pointer (some ⟨U, 0, none⟩)] w (MkOut w0 w M v (vars + 0) rs (quietT C t) C last) := by
 have ht1 := hC.tf (show t ≤ last by omega)
 have hf := hC.f0
 have hpl := hC.pl
 have hla := hC.la
 have hhl := hC.bl
 have hsm := hC.sm
 have hi1 := hC.i1
 have hi0 := hC.i0
 have ha0 := hC.a0
 have hfe : C.f = C.ins + C.ps.length := rfl
 have HB := hide hB
 have HU := hide hU
 have HC := hide hC
 have HL : Hid (∀ k, k ≤ C.b.ns.length → (stepsL (quietC C t) k).length ≤ (quietT C t).length) := fun k hk => stepsL_mono _ hk
 have HSU : Hid (∀ k, stepsL (quietC C t) (k + 1) = stepsL (quietC C t) k ++ rootC (turn (atL C.f t (C.b.ns.getD k 0)))) := fun k => stepsL_succ _ k
 have g0 := (hB _ _ (.tail _ (.head _))).1
 have hZ : Hid (quietT C t = stepsL (quietC C t) C.b.ns.length) := rfl
 generalize quietT C t = Z at *
 clear hB hU hC
 simp only [Sl.v] at g0
 obtain ⟨pp, HPP⟩ : ∃ pp, Hid (C.b.at' = pp) := ⟨_, rfl⟩
 rw [HPP.out] at g0
 go_enter Tryz.func155, Tryz.ntmps155
 go_wp2
 go_loopw [8] (fun i wr => ∃ k : Nat, k ≤ C.b.ns.length ∧ i = .int .i64 k ∧ Hid (∃ v' rs', numsOf rs' = numsOf rs ++ stepsL (quietC C t) k ∧ Un w0 wr M v' vars rs' C last ∧ Kp M w v wr v')) (fun i _ => C.b.ns.length - (intOf i).toNat)
 case atStart => exact ⟨0, Nat.zero_le _, rfl, v, rs, by simp [stepsL], HU.out, Kp.refl _ _ _⟩
 case round =>
   obtain ⟨k, hk, rfl, HR⟩ := hrel
   obtain ⟨v1, rs1, hn1, hU1, hk1⟩ := HR.out
   by_cases hlt : k < C.b.ns.length
   · have hki : (k : Int) < (C.b.ns.length : Int) := by omega
     have b1 := ((HB.out.kp hk1) _ _ (.head _)).1
     have hle := HL.out (k + 1) (by omega)
     have hbn := HC.out.nb _ (getD_mem' hlt)
     obtain ⟨gb, goff, hge, hgc⟩ := (HC.out.at'.b.later hU1.bl) (by omega)
     have gk := hgc k hlt
     obtain rfl : pp = some ⟨gb, goff, none⟩ := HPP.out.symm.trans hge
     clear hge
     rw [show C.b.ns[k] = C.b.ns.getD k 0 by simp [List.getD, List.getElem?_eq_getElem hlt]] at gk
     have HSK := hide (HSU.out k)
     have hln := numsOf_lenE hn1
     rw [List.length_append, numsOf_len] at hln
     rw [HSK.out, List.length_append] at hle
     have hat := atL_bd (x := C.b.ns.getD k 0) ht1.1 ht1.2 hbn.1 hbn.2
     have HAT := hide (fun w' (hb : Below wr.heap.size wr w') => at_any M C last t (C.b.ns.getD k 0) (by omega) hi1 (by omega) hbn.1 (by omega) ht1.1 (by omega) w' (hU1.un.later hb))
     have htb := turn_bd hat.1
     have HTU := hide (fun w' => turn_any (atL C.f t (C.b.ns.getD k 0)) hat.1 (by omega) w')
     have HSM := hide (fun w' (hb : Below wr.heap.size wr w') => rootM_any w0.heap.size M v1 vars rs1 (by omega) (turn (atL C.f t (C.b.ns.getD k 0))) htb.1 (by omega) w' (by have := hU1.sz; have := hb.size; omega) (hU1.cm.below hb))
     have HN1 := hide hn1
     have HU1 := hide hU1
     have HK1 := hide hk1
     have hbd : Below wr.heap.size wr wr.drew := (Below.refl _ wr).drew
     have hxU : ∀ w' v', Kp M wr v1 w' v' → w'.cell? ⟨U, 0, none⟩ = some (.pointer (some ⟨M, 0, none⟩)) := fun w' v' hk => (((HB.out.kp hk1).kp hk) _ _ (.head _)).1
     have HXU := hide hxU
     generalize atL C.f t (C.b.ns.getD k 0) = y at *
     generalize turn y = yt at *
     generalize C.b.ns.getD k 0 = z at *
     clear hgc hxU hn1 hU1 hk1 HR hat hbn hle hln htb
     go_wp2
     go_region_held3 (fun w' => w'.cell? ⟨U, 0, none⟩ = some (.pointer (some ⟨M, 0, none⟩)))
       (first | exact HXU.out _ _ hk4 | exact cell_later hbB b1 | exact cell_later hbd b1 | go_keep)
       (first
         | (go_at_call 44; have hq := hbB; refine (HSM.out _ hbB).mono ?_; rintro e w4 ⟨rfl, v4, rs4, hn4, hc4, hb4, hk4'⟩; have hk4 := (Kp.later (M := M) (v := v1) hbB).trans hk4')
         | (go_at_call 68; have hq := hbB; refine (HTU.out _).mono ?_; rintro e wT ⟨rfl, hwT⟩; obtain rfl : wB = wT := hwT.symm)
         | (go_at_call 38; refine (HAT.out _ hbd).mono ?_; rintro e wB ⟨rfl, hb⟩; have hbB := bthen hbd hb))
     all_goals
       rename_i hHeld
       have HR4 := hide (show ∃ v' rs', numsOf rs' = numsOf rs ++ stepsL (quietC C t) (k + 1) ∧ Un w0 w4 M v' vars rs' C last ∧ Kp M w v w4 v' from ⟨v4, rs4, by rw [hn4, HN1.out, HSK.out, List.append_assoc], HU1.out.next hc4 ((hbB.mono HU1.out.sz).trans hb4) hk4, HK1.out.trans hk4⟩)
       clear hHeld hn4 hc4 hb4 hk4 hk4' hbB HSM HAT HTU HSK
       go_wp2
       go_roundw
       case rel => exact ⟨k + 1, by omega, by go_num, HR4⟩
       case measure => simp [intOf]; omega
   · obtain rfl : k = C.b.ns.length := by omega
     have HE := hide (show MkOut w0 w M v (vars + 0) rs Z C last (.returned (.tuple #[])) wr from ⟨rfl, v1, rs1, by rw [hn1, hZ.out], by simpa using hU1, hk1⟩)
     clear hn1 hU1 hk1
     go_wp2
     go_end0
     exact HE.out
theorem enter155 (args : Array Value) (w : World) : (callFunc 155 args).run Tryz.prog w = .ok (.enter 155 args) w := by kernel_rfl
theorem quiet_makes (w0 : World) (M : Nat) (C : Ci) (last : Nat) (hC : COk w0 C last) (U G S A : Nat) (cs : Int) :
   Makes w0 M C last ⟨0, cs, 65, #[.pointer (some ⟨S, 0, none⟩), .pointer (some ⟨A, 0, none⟩)], (⟨S, 0, none⟩, .int .i64 last) :: (⟨A, 0, none⟩, .func (.func 155) #[] #[.pointer (some ⟨G, 0, none⟩), .pointer (some ⟨U, 0, none⟩)]) :: [(⟨U, 0, none⟩, .pointer (some ⟨M, 0, none⟩)), (⟨G, 0, none⟩, C.b.v)], stepsL (quietT C) last, none⟩ :=
 eachMake_any w0 M C last 155 _ _ _ (quietT C) 0 (by decide) S A last (by have := hC.la; omega) 0 cs (by simp) enter155 (fun t ht w v vars rs h1 h2 h3 _ _ => quietStep_any w0 M C last hC U G t (by omega) w v vars rs h1 h2 h3)
end Go.Proofs.YtjhkecnnhddhbaaGreatDoor

namespace Go.Proofs.YtjhkecnnhddhbaaGreatDoor
open Go.RowKit Go.Maps Go.WideMaps
set_option maxRecDepth 100000
set_option maxHeartbeats 2000000 in
theorem newV_any (w0 w : World) (M : Nat) (v : Value) (vars : Int) (rs : List Row) (C : Ci) (last : Nat) (h0 : 0 ≤ vars) (h1 : vars ≤ 1000000000) (hU : Un w0 w M v vars rs C last) :
   Calls Tryz.prog 175 #[.pointer (some ⟨M, 0, none⟩)] w fun e w' => e = .returned (.int .i64 (vars + 1)) ∧ w' = w.setCell ⟨M, 0, none⟩ (.int .i64 (vars + 1)) := by
 have c0 := hU.cm.c0
 have f0 := hU.cm.f0
 have ww := wrap_id (x := vars + 1) (by omega) (by omega)
 clear hU
 go_enter Tryz.func175, Tryz.ntmps175
 go_wp2
 go_ret
 exact ⟨rfl, rfl⟩
def differC (C : Ci) (t u : Nat) (v : Int) (i : Nat) : List (List Int) :=
 [[-(v + i + 1), numL (stL C.f C.a t i), numL (stL C.f C.a u i)], [-(v + i + 1), -numL (stL C.f C.a t i), -numL (stL C.f C.a u i)]]
def someV (v : Int) (n : Nat) : List Int := (List.range n).map fun i : Nat => v + (i : Int) + 1
def differT (C : Ci) (t u : Nat) (v : Int) : List (List Int) := stepsL (differC C t u v) C.s.toNat ++ [someV v C.s.toNat]
theorem differ_len (C : Ci) (t u : Nat) (v : Int) (n : Nat) : (stepsL (differC C t u v) n).length = n * 2 := by
 induction n with
 | zero => simp [stepsL]
 | succ n ih => rw [stepsL_succ, List.length_append, ih]; simp [differC]; omega
def D1 (w0 w1 : World) (M : Nat) (v : Value) (vars : Int) (rs : List Row) (L : List (List Int)) (C : Ci) (last U : Nat) (u : Value) (wr : World) : Prop :=
 ∃ p c v' rs', u = .slice p 1 c ∧ IntsAt wr p [vars + 1] ∧ numsOf rs' = numsOf rs ++ L ∧ Un w0 wr M v' (vars + 1) rs' C last ∧ Kp M w1 v wr v' ∧ wr.cell? ⟨U, 0, none⟩ = some (.pointer (some ⟨M, 0, none⟩))
set_option maxHeartbeats 16000000 in
theorem differ_one (w0 : World) (M : Nat) (C : Ci) (last : Nat) (hC : COk w0 C last) (hs : C.s = 1) (t u : Nat) (ht : t ≤ last) (hu : u ≤ last) (w : World) (v : Value) (vars : Int) (rs : List Row)
   (hU : Un w0 w M v vars rs C last) (hl : rs.length + 3 ≤ 800000) (hv0 : 0 ≤ vars) (hv : vars + 1 ≤ 200000) :
   Calls Tryz.prog 157 #[.agg #[.pointer (some ⟨M, 0, none⟩)], .int .i64 t, .int .i64 u] w (MkOut w0 w M v (vars + 1) rs (differT C t u vars) C last) := by
 have ht1 := hC.tf ht
 have hu1 := hC.tf hu
 have hpl := hC.pl
 have hi0 := hC.i0
 have hi1 := hC.i1
 have ha0 := hC.a0
 have hsm := hC.sm
 have hfe : C.f = C.ins + C.ps.length := rfl
 have hla := hC.la
 have hb1 : Below w.heap.size w (w.alloc (.cells #[.pointer (some ⟨M, 0, none⟩)] 158)) := bal (Below.refl _ _) _
 have HU := hide (hU.later hb1)
 have HK := hide (Kp.later (M := M) (v := v) hb1)
 have hnw := hU.new (Nat.le_refl w.heap.size)
 have x0 : (w.alloc (.cells #[.pointer (some ⟨M, 0, none⟩)] 158)).cell? ⟨w.heap.size, 0, none⟩ = some (.pointer (some ⟨M, 0, none⟩)) := by simp [go_sem]
 have HBX : Hid (Bxs (w.alloc (.cells #[.pointer (some ⟨M, 0, none⟩)] 158)) v M [(⟨w.heap.size, 0, none⟩, .pointer (some ⟨M, 0, none⟩))]) := fun q x hq => by
   simp only [List.mem_cons, List.mem_nil_iff, or_false, Prod.mk.injEq] at hq
   rcases hq with ⟨rfl, rfl⟩
   exact ⟨x0, hnw⟩
 have u5 := HU.out.un.u5
 rw [hs] at u5
 have hst := stL_bd (f := C.f) (a := C.a) (t := t) (i := 0) ht1.1 ht1.2 ha0 (by omega)
 have hsu := stL_bd (f := C.f) (a := C.a) (t := u) (i := 0) hu1.1 hu1.2 ha0 (by omega)
 have HZ : Hid (differT C t u vars = differC C t u vars 0 ++ [[vars + 1]]) := by unfold Hid differT; rw [hs]; simp [stepsL, someV]
 have HDC : Hid (differC C t u vars 0 = [[-(vars + 1), numL (stL C.f C.a t 0), numL (stL C.f C.a u 0)], [-(vars + 1), -numL (stL C.f C.a t 0), -numL (stL C.f C.a u 0)]]) := by unfold Hid differC; simp
 have HSA := hide (fun w' (hb : UnC w' M C last) => state_any M C last t 0 hi0 hi1 (by omega) ha0 (by omega) (by omega) ht1.1 (by omega) w' hb)
 have HSB := hide (fun w' (hb : UnC w' M C last) => state_any M C last u 0 hi0 hi1 (by omega) ha0 (by omega) (by omega) hu1.1 (by omega) w' hb)
 have HNA := hide (fun w' => number_any (stL C.f C.a t 0) (by omega) (by omega) w')
 have HNB := hide (fun w' => number_any (stL C.f C.a u 0) (by omega) (by omega) w')
 have hna := numL_bd (x := stL C.f C.a t 0) (by omega) (by omega)
 have hnb := numL_bd (x := stL C.f C.a u 0) (by omega) (by omega)
 rw [show ((0 : Nat) : Int) = (0 : Int) from rfl] at HSA HSB
 generalize differT C t u vars = Z at *
 generalize differC C t u vars 0 = DC at *
 generalize stL C.f C.a t 0 = sa at *
 generalize stL C.f C.a u 0 = sb at *
 generalize numL sa = a at *
 generalize numL sb = b at *
 clear hC hU hb1 hnw hst hsu ht1 hu1
 go_enter Tryz.func157, Tryz.ntmps157
 go_wp2
 generalize w.alloc (.cells #[.pointer (some ⟨M, 0, none⟩)] 158) = w1 at *
 generalize w.heap.size = U at *
 go_loopw [6, 17] (fun s i wr => ∃ k : Nat, i = .int .i64 k ∧ ((k = 0 ∧ s = .slice none 0 0 ∧ wr = w1) ∨ (k = 1 ∧ Hid (D1 w0 w1 M v vars rs DC C last U s wr)))) (fun _ i _ => 1 - (intOf i).toNat)
 case atStart => exact ⟨0, rfl, Or.inl ⟨rfl, rfl, rfl⟩⟩
 case round =>
   obtain ⟨k, rfl, hcase⟩ := hrel
   rcases hcase with ⟨rfl, rfl, hwr⟩ | ⟨rfl, HD⟩
   · obtain rfl : w1 = wr := hwr.symm
     clear hwr
     have hbd : Below w1.heap.size w1 w1.drew := (Below.refl _ w1).drew
     go_wp2
     go_region_held3 (fun w' => w'.cell? ⟨U, 0, none⟩ = some (.pointer (some ⟨M, 0, none⟩)))
       (first | exact cell_later hbB x0 | exact cell_later hbA x0 | exact cell_later hbd x0 | go_keep)
       (first
         | (go_at_call 48; have hq := hbB; refine (HNB.out _).mono ?_; rintro e wN ⟨rfl, hwN⟩; subst hwN)
         | (go_at_call 42; have hq := hbA; refine (HSB.out _ (HU.out.un.later hbA)).mono ?_; rintro e wB ⟨rfl, hb⟩; have hbB := bthen hbA hb)
         | (go_at_call 48; have hq := hbA; refine (HNA.out _).mono ?_; rintro e wN ⟨rfl, hwN⟩; subst hwN)
         | (go_at_call 42; refine (HSA.out _ (HU.out.un.later hbd)).mono ?_; rintro e wA ⟨rfl, hb⟩; have hbA := bthen hbd hb))
     all_goals
       rename_i hHeld
       have HU5 := hide (HU.out.later hbB)
       have HX5 := hide (HBX.out.later hbB)
       have HK5 := hide (Kp.later (M := M) (v := v) hbB)
       have y0 := cell_later hbB x0
       have HNV := hide (newV_any w0 wN M v vars rs C last hv0 (by omega) HU5.out)
       clear hHeld hbA hbB hbd HSA HSB HNA HNB
       go_wp2_with fail
       refine HNV.out.mono ?_
       rintro e w6 ⟨rfl, hw6⟩
       have HU6 : Hid (Un w0 w6 M v (vars + 1) rs C last) := by rw [hw6]; exact HU5.out.setV _
       have HK6 : Hid (Kp M w1 v w6 v) := by rw [hw6]; exact HK5.out.trans (Kp.setV _)
       have HX6 : Hid (Bxs w6 v M [(⟨U, 0, none⟩, .pointer (some ⟨M, 0, none⟩))]) := by rw [hw6]; exact HX5.out.kp (Kp.setV _)
       have y6 := (HX6.out _ _ (.head _)).1
       clear hw6 HNV HU5 HX5 HK5 y0
       have wn := wrap_id (x := -(vars + 1)) (by omega) (by omega)
       have wa := wrap_id (x := -a) (by omega) (by omega)
       have wb := wrap_id (x := -b) (by omega) (by omega)
       go_wp2_with fail
       refine (addC_any w0.heap.size M v (vars + 1) rs (by omega) [-(vars + 1), a, b] (by simp) (some ⟨w6.heap.size, 0, none⟩) 3 _ (by have := HU6.out.sz; simp; omega) (HU6.out.cm.below (bal (Below.refl _ _) _)) (ints_three (-(vars + 1)) a b)).mono ?_
       rintro e w7 ⟨rfl, v7, r7, hr7, hc7, hb7, hk7⟩
       have hbA : Below w6.heap.size w6 (w6.alloc (.cells #[.int .i64 (-(vars + 1)), .int .i64 a, .int .i64 b] 3)) := bal (Below.refl _ _) _
       have HU7 := hide ((HU6.out.later hbA).next hc7 hb7 hk7)
       have HK7 := hide ((HK6.out.trans (Kp.later hbA)).trans hk7)
       have HX7 := hide ((HX6.out.later hbA).kp hk7)
       have HR7 := hide hr7
       have y7 := (HX7.out _ _ (.head _)).1
       clear hr7 hc7 hb7 hk7 hbA HU6 HK6 HX6 y6
       go_wp2_with fail
       refine (addC_any w0.heap.size M v7 (vars + 1) (rs ++ [r7]) (by simp; omega) [-(vars + 1), -a, -b] (by simp) (some ⟨w7.heap.size, 0, none⟩) 3 _ (by have := HU7.out.sz; simp; omega) (HU7.out.cm.below (bal (Below.refl _ _) _)) (ints_three (-(vars + 1)) (-a) (-b))).mono ?_
       rintro e w8 ⟨rfl, v8, r8, hr8, hc8, hb8, hk8⟩
       have hbA : Below w7.heap.size w7 (w7.alloc (.cells #[.int .i64 (-(vars + 1)), .int .i64 (-a), .int .i64 (-b)] 3)) := bal (Below.refl _ _) _
       have HU8 := hide ((HU7.out.later hbA).next hc8 hb8 hk8)
       have HK8 := hide ((HK7.out.trans (Kp.later hbA)).trans hk8)
       have HX8 := hide ((HX7.out.later hbA).kp hk8)
       have HR8 := hide hr8
       clear hr8 hc8 hb8 hk8 hbA HU7 HK7 HX7 y7
       go_wp2_with (at_builtin; refine wpList_append_ints rfl _ _ rfl w8.heap.size _ [] [vars + 1] rfl (World.ownsRow_nil _ _ _ _) (some ⟨w8.heap.size, 0, none⟩) 1 rfl (ints_one (vars + 1)) (fun h => by cases h) (by simp) (by simp) ?_)
       intro v9 w9 ho9 hg9
       have hb9 : Below w8.heap.size w8 w9 := (bal (Below.refl _ w8) _).grown hg9 (by simp) (fun j hj => by cases hj)
       have HD9 : Hid (D1 w0 w1 M v vars rs DC C last U v9 w9) := by
         obtain ⟨p9, c9, rfl, hI9, _⟩ := owns_ints (show w9.ownsRow w8.heap.size 3 1 v9 [vars + 1].length ([vars + 1].map (Value.int .i64)) from ho9)
         exact ⟨p9, c9, v8, _, rfl, hI9, by rw [numsOf_app, numsOf_app, HR7.out, HR8.out, HDC.out]; simp, HU8.out.later hb9, HK8.out.trans (Kp.later hb9), ((HX8.out.later hb9) _ _ (.head _)).1⟩
       clear ho9 hg9 hb9 HU8 HK8 HX8 HR7 HR8 wn wa wb
       go_wp2
       go_roundw
       case rel => exact ⟨1, by go_num, Or.inr ⟨rfl, HD9⟩⟩
       case measure => simp [intOf]
   · obtain ⟨p9, c9, v9, rs9, rfl, hI9, hn9, hU9, hk9, y9⟩ := HD.out
     have hln := numsOf_lenE hn9
     have hdl : DC.length = 2 := by rw [HDC.out]; rfl
     rw [List.length_append, numsOf_len, hdl] at hln
     have HAD := hide (addC_any w0.heap.size M v9 (vars + 1) rs9 (by omega) [vars + 1] (by simp) p9 c9 wr hU9.sz hU9.cm hI9)
     have HU9 := hide hU9
     have HK9 := hide (HK.out.trans hk9)
     have HN9 := hide hn9
     clear hI9 hn9 hU9 hk9 HD hln hdl
     go_wp2_with fail
     refine HAD.out.mono ?_
     rintro e w4 ⟨rfl, v4, r4, hr4, hc4, hb4, hk4⟩
     have HE := hide (show MkOut w0 w M v (vars + 1) rs Z C last (.returned (.tuple #[])) w4 from ⟨rfl, v4, _, by rw [numsOf_app, hr4, HN9.out, HZ.out, List.append_assoc], HU9.out.next hc4 hb4 hk4, HK9.out.trans hk4⟩)
     clear hr4 hc4 hb4 hk4 HAD
     go_wp2
     go_end0
     exact HE.out
end Go.Proofs.YtjhkecnnhddhbaaGreatDoor

namespace Go.Proofs.YtjhkecnnhddhbaaGreatDoor
open Go.RowKit Go.Maps Go.WideMaps
set_option maxRecDepth 100000
theorem enter156 (args : Array Value) (w : World) : (callFunc 156 args).run Tryz.prog w = .ok (.enter 156 args) w := by kernel_rfl
set_option maxHeartbeats 16000000 in
theorem different_makes (w0 : World) (M : Nat) (C : Ci) (hC : COk w0 C 1) (hs : C.s = 1) (U : Nat) (cs V0 : Int) :
   Makes w0 M C 1 ⟨1, cs, 156, #[.pointer (some ⟨U, 0, none⟩)], [(⟨U, 0, none⟩, .pointer (some ⟨M, 0, none⟩))], differT C 0 1 V0, some V0⟩ := by
 intro w v vars rs hU hB hl hv0 hv hnd
 simp only at hB hl hv ⊢
 obtain rfl : vars = V0 := hnd V0 rfl
 have hlen : (differT C 0 1 vars).length = 3 := by unfold differT; rw [List.length_append, differ_len, hs]; rfl
 rw [hlen] at hl
 have HB := hide hB
 have HU := hide hU
 have HDF := hide (differ_one w0 M C 1 hC hs 0 1 (by decide) (by decide) w v vars rs hU (by omega) hv0 (by omega))
 rw [show ((0 : Nat) : Int) = (0 : Int) from rfl, show ((1 : Nat) : Int) = (1 : Int) from rfl] at HDF
 generalize differT C 0 1 vars = Z at *
 have b0 := (hB _ _ (.head _)).1
 have u10 := hU.un.u10
 rw [show ((1 : Nat) : Int) = (1 : Int) from rfl] at u10
 clear hB hU hnd hlen
 go_enter Tryz.func156, Tryz.ntmps156
 go_wp2
 go_loopw [9] (fun i wr => ∃ k : Nat, i = .int .i64 k ∧ ((k = 0 ∧ wr = w) ∨ (1 ≤ k ∧ k ≤ 2 ∧ Hid (MkOut w0 w M v (vars + 1) rs Z C 1 (.returned (.tuple #[])) wr)))) (fun i _ => 2 - (intOf i).toNat)
 case atStart => exact ⟨0, rfl, Or.inl ⟨rfl, rfl⟩⟩
 case round =>
   obtain ⟨k, rfl, hcase⟩ := hrel
   rcases hcase with ⟨rfl, hwr⟩ | ⟨h1, h2, HD⟩
   · obtain rfl : w = wr := hwr.symm
     clear hwr
     go_wp2
     go_loopw [2] (fun i wr => ∃ k : Nat, i = .int .i64 k ∧ ((k = 1 ∧ wr = w) ∨ (k = 2 ∧ Hid (MkOut w0 w M v (vars + 1) rs Z C 1 (.returned (.tuple #[])) wr)))) (fun i _ => 2 - (intOf i).toNat)
     case atStart => exact ⟨1, rfl, Or.inl ⟨rfl, rfl⟩⟩
     case round =>
       obtain ⟨k, rfl, hcase⟩ := hrel
       rcases hcase with ⟨rfl, hwr⟩ | ⟨rfl, HD⟩
       · obtain rfl : w = wr := hwr.symm
         clear hwr
         go_wp2_with fail
         refine HDF.out.mono ?_
         rintro e w4 ⟨rfl, hrest⟩
         have HR4 : Hid (MkOut w0 w M v (vars + 1) rs Z C 1 (.returned (.tuple #[])) w4) := ⟨rfl, hrest⟩
         clear hrest HDF
         go_wp2
         go_roundw
         case rel => exact ⟨_, _, _, _, _, _, _, _, _, _, _, _, _, _, ⟨2, by go_num, Or.inr ⟨rfl, HR4⟩⟩, rfl⟩
         case measure => simp [intOf]
       · obtain ⟨_, v9, rs9, hn9, hU9, hk9⟩ := HD.out
         have y0 := ((HB.out.kp hk9) _ _ (.head _)).1
         have y10 := hU9.un.u10
         rw [show ((1 : Nat) : Int) = (1 : Int) from rfl] at y10
         clear hn9 hU9 hk9
         go_wp2
         go_roundw
         case rel => exact ⟨1, by go_num, Or.inr ⟨by decide, by decide, HD⟩⟩
         case measure => simp [intOf]
   · obtain ⟨_, v9, rs9, hn9, hU9, hk9⟩ := HD.out
     have y0 := ((HB.out.kp hk9) _ _ (.head _)).1
     have y10 := hU9.un.u10
     rw [show ((1 : Nat) : Int) = (1 : Int) from rfl] at y10
     clear hn9 hU9 hk9
     by_cases hk : k = 1
     · subst hk
       generalize wr = w5 at *
       go_wp2
       go_loopw [2] (fun i wr => i = .int .i64 2 ∧ wr = w5) (fun _ _ => 0)
       case atStart => exact ⟨rfl, rfl⟩
       case round =>
         obtain ⟨rfl, hw⟩ := hrel
         obtain rfl : w5 = wr := hw.symm
         clear hw
         go_wp2
         go_roundw
         case rel => exact ⟨2, by go_num, Or.inr ⟨by decide, by decide, HD⟩⟩
         case measure => simp [intOf]
     · obtain rfl : k = 2 := by omega
       go_wp2
       go_end0
       exact HD.out
end Go.Proofs.YtjhkecnnhddhbaaGreatDoor
