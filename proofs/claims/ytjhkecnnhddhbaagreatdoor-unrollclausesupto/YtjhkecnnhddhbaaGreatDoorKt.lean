/- Steps that differ: a new variable; two states differ. -/
import Derived.Test.YtjhkecnnhddhbaaGreatDoorKr
namespace Go.Proofs.YtjhkecnnhddhbaaGreatDoor
open Go.RowKit Go.Maps Go.WideMaps
set_option maxRecDepth 100000
set_option autoImplicit false

set_option maxHeartbeats 2000000 in
theorem newV_any (w0 w : World) (M : Nat) (v : Value) (vars : Int) (rs : List Row) (C : Ci) (last : Nat) (h0 : 0 ≤ vars) (h1 : vars ≤ 1000000000) (hU : Un w0 w M v vars rs C last) :
    Calls Tryz.prog 175 #[.pointer (some ⟨M, 0, none⟩)] w fun e w' => e = .returned (.int .i64 (vars + 1)) ∧ w' = w.setCell ⟨M, 0, none⟩ (.int .i64 (vars + 1)) := by
  have c0 := hU.cm.c0
  have f0 := hU.cm.f0
  have ww := wrap_id (x := vars + 1) (by omega) (by omega)
  clear hU
  go_enter Tryz.func175, Tryz.ntmps175
  go_wp2
  go_ret
  exact ⟨rfl, rfl⟩
/-- The clauses that a new variable is so just if a bit of two steps differs. -/
def differC (C : Ci) (t u : Nat) (v : Int) (i : Nat) : List (List Int) :=
  [[-(v + i + 1), numL (stL C.f C.a t i), numL (stL C.f C.a u i)], [-(v + i + 1), -numL (stL C.f C.a t i), -numL (stL C.f C.a u i)]]
/-- The new variables. -/
def someV (v : Int) (n : Nat) : List Int := (List.range n).map fun i : Nat => v + (i : Int) + 1
def differT (C : Ci) (t u : Nat) (v : Int) : List (List Int) := stepsL (differC C t u v) C.s.toNat ++ [someV v C.s.toNat]
theorem someV_succ (v : Int) (n : Nat) : someV v (n + 1) = someV v n ++ [v + n + 1] := by simp [someV, List.range_succ]
theorem differ_len (C : Ci) (t u : Nat) (v : Int) (n : Nat) : (stepsL (differC C t u v) n).length = n * 2 := by
  induction n with
  | zero => simp [stepsL]
  | succ n ih => rw [stepsL_succ, List.length_append, ih]; simp [differC]; omega
/-- What lies behind the one bit. -/
def D1 (w0 w1 : World) (M : Nat) (v : Value) (vars : Int) (rs : List Row) (L : List (List Int)) (C : Ci) (last U : Nat) (u : Value) (wr : World) : Prop :=
  ∃ p c v' rs', u = .slice p 1 c ∧ IntsAt wr p [vars + 1] ∧ numsOf rs' = numsOf rs ++ L ∧ Un w0 wr M v' (vars + 1) rs' C last ∧ Kp M w1 v wr v' ∧ wr.cell? ⟨U, 0, none⟩ = some (.pointer (some ⟨M, 0, none⟩))

set_option maxHeartbeats 16000000 in
theorem differ_one (w0 : World) (M : Nat) (C : Ci) (last : Nat) (hC : COk w0 C last) (hs : C.s = 1) (t u : Nat) (ht : t ≤ last) (hu : u ≤ last) (w : World) (v : Value) (vars : Int) (rs : List Row)
    (hU : Un w0 w M v vars rs C last) (hl : rs.length + 3 ≤ 800000) (hv0 : 0 ≤ vars) (hv : vars + 1 ≤ 200000) :
    Calls Tryz.prog 157 #[.agg #[.pointer (some ⟨M, 0, none⟩)], .int .i64 t, .int .i64 u] w (MkOut w0 w M v (vars + 1) rs (differT C t u vars) C last) := by
  have ht1 := hC.tf ht
  have hu1 := hC.tf hu
  have hpl := hC.pl
  have hi0 := hC.i0
  have hi1 := hC.i1
  have ha0 := hC.a0
  have hsm := hC.sm
  have hfe : C.f = C.ins + C.ps.length := rfl
  have hla := hC.la
  have hb1 : Below w.heap.size w (w.alloc (.cells #[.pointer (some ⟨M, 0, none⟩)] 158)) := bal (Below.refl _ _) _
  have HU := hide (hU.later hb1)
  have HK := hide (Kp.later (M := M) (v := v) hb1)
  have hnw := hU.new (Nat.le_refl w.heap.size)
  have x0 : (w.alloc (.cells #[.pointer (some ⟨M, 0, none⟩)] 158)).cell? ⟨w.heap.size, 0, none⟩ = some (.pointer (some ⟨M, 0, none⟩)) := by simp [go_sem]
  have HBX : Hid (Bxs (w.alloc (.cells #[.pointer (some ⟨M, 0, none⟩)] 158)) v M [(⟨w.heap.size, 0, none⟩, .pointer (some ⟨M, 0, none⟩))]) := fun q x hq => by
    simp only [List.mem_cons, List.mem_nil_iff, or_false, Prod.mk.injEq] at hq
    rcases hq with ⟨rfl, rfl⟩
    exact ⟨x0, hnw⟩
  have u5 := HU.out.un.u5
  rw [hs] at u5
  have hst := stL_bd (f := C.f) (a := C.a) (t := t) (i := 0) ht1.1 ht1.2 ha0 (by omega)
  have hsu := stL_bd (f := C.f) (a := C.a) (t := u) (i := 0) hu1.1 hu1.2 ha0 (by omega)
  have HZ : Hid (differT C t u vars = differC C t u vars 0 ++ [[vars + 1]]) := by unfold Hid differT; rw [hs]; simp [stepsL, someV]
  have HDC : Hid (differC C t u vars 0 = [[-(vars + 1), numL (stL C.f C.a t 0), numL (stL C.f C.a u 0)], [-(vars + 1), -numL (stL C.f C.a t 0), -numL (stL C.f C.a u 0)]]) := by unfold Hid differC; simp
  have HSA := hide (fun w' (hb : UnC w' M C last) => state_any M C last t 0 hi0 hi1 (by omega) ha0 (by omega) (by omega) ht1.1 (by omega) w' hb)
  have HSB := hide (fun w' (hb : UnC w' M C last) => state_any M C last u 0 hi0 hi1 (by omega) ha0 (by omega) (by omega) hu1.1 (by omega) w' hb)
  have HNA := hide (fun w' => number_any (stL C.f C.a t 0) (by omega) (by omega) w')
  have HNB := hide (fun w' => number_any (stL C.f C.a u 0) (by omega) (by omega) w')
  have hna := numL_bd (x := stL C.f C.a t 0) (by omega) (by omega)
  have hnb := numL_bd (x := stL C.f C.a u 0) (by omega) (by omega)
  rw [show ((0 : Nat) : Int) = (0 : Int) from rfl] at HSA HSB
  generalize differT C t u vars = Z at *
  generalize differC C t u vars 0 = DC at *
  generalize stL C.f C.a t 0 = sa at *
  generalize stL C.f C.a u 0 = sb at *
  generalize numL sa = a at *
  generalize numL sb = b at *
  clear hC hU hb1 hnw hst hsu ht1 hu1
  go_enter Tryz.func157, Tryz.ntmps157
  go_wp2
  generalize w.alloc (.cells #[.pointer (some ⟨M, 0, none⟩)] 158) = w1 at *
  generalize w.heap.size = U at *
  go_loopw [6, 17] (fun s i wr => ∃ k : Nat, i = .int .i64 k ∧ ((k = 0 ∧ s = .slice none 0 0 ∧ wr = w1) ∨ (k = 1 ∧ Hid (D1 w0 w1 M v vars rs DC C last U s wr)))) (fun _ i _ => 1 - (intOf i).toNat)
  case atStart => exact ⟨0, rfl, Or.inl ⟨rfl, rfl, rfl⟩⟩
  case round =>
    obtain ⟨k, rfl, hcase⟩ := hrel
    rcases hcase with ⟨rfl, rfl, hwr⟩ | ⟨rfl, HD⟩
    · obtain rfl : w1 = wr := hwr.symm
      clear hwr
      have hbd : Below w1.heap.size w1 w1.drew := (Below.refl _ w1).drew
      go_wp2
      go_region_held3 (fun w' => w'.cell? ⟨U, 0, none⟩ = some (.pointer (some ⟨M, 0, none⟩)))
        (first | exact cell_later hbB x0 | exact cell_later hbA x0 | exact cell_later hbd x0 | go_keep)
        (first
          | (go_at_call 48; have hq := hbB; refine (HNB.out _).mono ?_; rintro e wN ⟨rfl, hwN⟩; subst hwN)
          | (go_at_call 42; have hq := hbA; refine (HSB.out _ (HU.out.un.later hbA)).mono ?_; rintro e wB ⟨rfl, hb⟩; have hbB := bthen hbA hb)
          | (go_at_call 48; have hq := hbA; refine (HNA.out _).mono ?_; rintro e wN ⟨rfl, hwN⟩; subst hwN)
          | (go_at_call 42; refine (HSA.out _ (HU.out.un.later hbd)).mono ?_; rintro e wA ⟨rfl, hb⟩; have hbA := bthen hbd hb))
      all_goals
        rename_i hHeld
        have HU5 := hide (HU.out.later hbB)
        have HX5 := hide (HBX.out.later hbB)
        have HK5 := hide (Kp.later (M := M) (v := v) hbB)
        have y0 := cell_later hbB x0
        have HNV := hide (newV_any w0 wN M v vars rs C last hv0 (by omega) HU5.out)
        clear hHeld hbA hbB hbd HSA HSB HNA HNB
        go_wp2_with fail
        refine HNV.out.mono ?_
        rintro e w6 ⟨rfl, hw6⟩
        have HU6 : Hid (Un w0 w6 M v (vars + 1) rs C last) := by rw [hw6]; exact HU5.out.setV _
        have HK6 : Hid (Kp M w1 v w6 v) := by rw [hw6]; exact HK5.out.trans (Kp.setV _)
        have HX6 : Hid (Bxs w6 v M [(⟨U, 0, none⟩, .pointer (some ⟨M, 0, none⟩))]) := by rw [hw6]; exact HX5.out.kp (Kp.setV _)
        have y6 := (HX6.out _ _ (.head _)).1
        clear hw6 HNV HU5 HX5 HK5 y0
        have wn := wrap_id (x := -(vars + 1)) (by omega) (by omega)
        have wa := wrap_id (x := -a) (by omega) (by omega)
        have wb := wrap_id (x := -b) (by omega) (by omega)
        go_wp2_with fail
        refine (addC_any w0.heap.size M v (vars + 1) rs (by omega) [-(vars + 1), a, b] (by simp) (some ⟨w6.heap.size, 0, none⟩) 3 _ (by have := HU6.out.sz; simp; omega) (HU6.out.cm.below (bal (Below.refl _ _) _)) (ints_three (-(vars + 1)) a b)).mono ?_
        rintro e w7 ⟨rfl, v7, r7, hr7, hc7, hb7, hk7⟩
        have hbA : Below w6.heap.size w6 (w6.alloc (.cells #[.int .i64 (-(vars + 1)), .int .i64 a, .int .i64 b] 3)) := bal (Below.refl _ _) _
        have HU7 := hide ((HU6.out.later hbA).next hc7 hb7 hk7)
        have HK7 := hide ((HK6.out.trans (Kp.later hbA)).trans hk7)
        have HX7 := hide ((HX6.out.later hbA).kp hk7)
        have HR7 := hide hr7
        have y7 := (HX7.out _ _ (.head _)).1
        clear hr7 hc7 hb7 hk7 hbA HU6 HK6 HX6 y6
        go_wp2_with fail
        refine (addC_any w0.heap.size M v7 (vars + 1) (rs ++ [r7]) (by simp; omega) [-(vars + 1), -a, -b] (by simp) (some ⟨w7.heap.size, 0, none⟩) 3 _ (by have := HU7.out.sz; simp; omega) (HU7.out.cm.below (bal (Below.refl _ _) _)) (ints_three (-(vars + 1)) (-a) (-b))).mono ?_
        rintro e w8 ⟨rfl, v8, r8, hr8, hc8, hb8, hk8⟩
        have hbA : Below w7.heap.size w7 (w7.alloc (.cells #[.int .i64 (-(vars + 1)), .int .i64 (-a), .int .i64 (-b)] 3)) := bal (Below.refl _ _) _
        have HU8 := hide ((HU7.out.later hbA).next hc8 hb8 hk8)
        have HK8 := hide ((HK7.out.trans (Kp.later hbA)).trans hk8)
        have HX8 := hide ((HX7.out.later hbA).kp hk8)
        have HR8 := hide hr8
        clear hr8 hc8 hb8 hk8 hbA HU7 HK7 HX7 y7
        go_wp2_with (at_builtin; refine wpList_append_ints rfl _ _ rfl w8.heap.size _ [] [vars + 1] rfl (World.ownsRow_nil _ _ _ _) (some ⟨w8.heap.size, 0, none⟩) 1 rfl (ints_one (vars + 1)) (fun h => by cases h) (by simp) (by simp) ?_)
        intro v9 w9 ho9 hg9
        have hb9 : Below w8.heap.size w8 w9 := (bal (Below.refl _ w8) _).grown hg9 (by simp) (fun j hj => by cases hj)
        have HD9 : Hid (D1 w0 w1 M v vars rs DC C last U v9 w9) := by
          obtain ⟨p9, c9, rfl, hI9, _⟩ := owns_ints (show w9.ownsRow w8.heap.size 3 1 v9 [vars + 1].length ([vars + 1].map (Value.int .i64)) from ho9)
          exact ⟨p9, c9, v8, _, rfl, hI9, by rw [numsOf_app, numsOf_app, HR7.out, HR8.out, HDC.out]; simp, HU8.out.later hb9, HK8.out.trans (Kp.later hb9), ((HX8.out.later hb9) _ _ (.head _)).1⟩
        clear ho9 hg9 hb9 HU8 HK8 HX8 HR7 HR8 wn wa wb
        go_wp2
        go_roundw
        case rel => exact ⟨1, by go_num, Or.inr ⟨rfl, HD9⟩⟩
        case measure => simp [intOf]
    · obtain ⟨p9, c9, v9, rs9, rfl, hI9, hn9, hU9, hk9, y9⟩ := HD.out
      have hln := numsOf_lenE hn9
      have hdl : DC.length = 2 := by rw [HDC.out]; rfl
      rw [List.length_append, numsOf_len, hdl] at hln
      have HAD := hide (addC_any w0.heap.size M v9 (vars + 1) rs9 (by omega) [vars + 1] (by simp) p9 c9 wr hU9.sz hU9.cm hI9)
      have HU9 := hide hU9
      have HK9 := hide (HK.out.trans hk9)
      have HN9 := hide hn9
      clear hI9 hn9 hU9 hk9 HD hln hdl
      go_wp2_with fail
      refine HAD.out.mono ?_
      rintro e w4 ⟨rfl, v4, r4, hr4, hc4, hb4, hk4⟩
      have HE := hide (show MkOut w0 w M v (vars + 1) rs Z C last (.returned (.tuple #[])) w4 from ⟨rfl, v4, _, by rw [numsOf_app, hr4, HN9.out, HZ.out, List.append_assoc], HU9.out.next hc4 hb4 hk4, HK9.out.trans hk4⟩)
      clear hr4 hc4 hb4 hk4 HAD
      go_wp2
      go_end0
      exact HE.out
end Go.Proofs.YtjhkecnnhddhbaaGreatDoor
