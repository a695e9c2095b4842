/- Steps that differ: two states, of any number of bits. -/
import Derived.Lib.AppendZeros
import Derived.Test.YtmambfdimeeijaaGreatDoorSaM
import Derived.Deep.RegionHeld3
namespace Go.Proofs.YtmambfdimeeijaaGreatDoor
open Go.RowKit Go.Maps Go.WideMaps
set_option maxRecDepth 100000
def DK (w0 w1 : World) (M : Nat) (v : Value) (vars : Int) (rs : List Row) (C : Ci) (last t u k : Nat) (s : Value) (wr : World) : Prop :=
 ∃ v' rs', numsOf rs' = numsOf rs ++ stepsL (differC C t u vars) k ∧ Un w0 wr M v' (vars + k) rs' C last ∧ Kp M w1 v wr v' ∧ Sm w1 wr M v' rs' s (someV vars k)
theorem differ_step (C : Ci) (t u : Nat) (v : Int) (k : Nat) : stepsL (differC C t u v) (k + 1) = stepsL (differC C t u v) k ++ [[-(v + k + 1), numL (stL C.f C.a t k), numL (stL C.f C.a u k)], [-(v + k + 1), -numL (stL C.f C.a t k), -numL (stL C.f C.a u k)]] := by
 rw [stepsL_succ]; rfl
theorem someV_len (v : Int) (k : Nat) : (someV v k).length = k := by simp [someV]
theorem step_appR {P : Program} {w : World} {ops : Array Oper} {o : Oper} {a : Act} {K : Act → World → Prop} {Q : Exit → Act → World → Prop} {E : Prop} (hgd : o.guard = none) (s x : Operand) (t tn : TypeId) (ho : o.op = .call { callee := .builtin .append, args := #[s, x], argTypes := #[t, tn] }) (vs vx : Value) (hs : a.eval s = vs) (hx : a.eval x = vx) (v' : Value) (w' : World) (hr : (Builtin.append_ #[t, tn] o.type #[vs, vx]).run P w = .ok v' w') (h : K (a.put o.dst v') w') : if Region.wanted o (yielded ops a.tmps) = true then Oper.wp P o a w K Q else E := by
 rw [if_pos (by simp [Region.wanted, hgd])]
 exact Lib.wp_append_run w s x t tn ho vs vx hs hx v' w' hr h
section
set_option maxHeartbeats 16000000 in
theorem differ_any (w0 : World) (M : Nat) (C : Ci) (last : Nat) (hC : COk w0 C last) (t u : Nat) (ht : t ≤ last) (hu : u ≤ last) (w : World) (v : Value) (vars : Int) (rs : List Row)
   (hU : Un w0 w M v vars rs C last) (hl : rs.length + (2 * C.s.toNat + 1) ≤ 800000) (hv0 : 0 ≤ vars) (hv : vars + C.s ≤ 200000) :
   Calls Tryz.prog 60 #[.agg #[.pointer (some ⟨M, 0, none⟩)], .int .i64 t, .int .i64 u] w (MkOut w0 w M v (vars + C.s) rs (differT C t u vars) C last) := by
 have ht1 := hC.tf ht
 have hu1 := hC.tf hu
 have hpl := hC.pl
 have hi0 := hC.i0
 have hi1 := hC.i1
 have ha0 := hC.a0
 have hs0 := hC.s0
 have hsm := hC.sm
 have hfe : C.f = C.ins + C.ps.length := rfl
 have hff := hC.f0
 have hla := hC.la
 obtain ⟨n, hn⟩ : ∃ n : Nat, C.s.toNat = n := ⟨_, rfl⟩
 have hsn : C.s = (n : Int) := by omega
 have hsz := hU.sz
 have hMl := World.block_lt_of_cell? _ _ hU.cm.c0
 simp only at hMl
 have hb1 : Below w.heap.size w (w.alloc (.cells #[.pointer (some ⟨M, 0, none⟩)] 62)) := bal (Below.refl _ _) _
 have HU := hide (hU.later hb1)
 have HK := hide (Kp.later (M := M) (v := v) hb1)
 have hnw := hU.new (Nat.le_refl w.heap.size)
 have x0 : (w.alloc (.cells #[.pointer (some ⟨M, 0, none⟩)] 62)).cell? ⟨w.heap.size, 0, none⟩ = some (.pointer (some ⟨M, 0, none⟩)) := by simp [go_sem]
 have HBX : Hid (Bxs (w.alloc (.cells #[.pointer (some ⟨M, 0, none⟩)] 62)) v M [(⟨w.heap.size, 0, none⟩, .pointer (some ⟨M, 0, none⟩))]) := fun q x hq => by
   simp only [List.mem_cons, List.mem_nil_iff, or_false, Prod.mk.injEq] at hq
   rcases hq with ⟨rfl, rfl⟩
   exact ⟨x0, hnw⟩
 have u5 := HU.out.un.u5
 rw [hsn] at u5
 have HW0 : Hid (w0.heap.size ≤ (w.alloc (.cells #[.pointer (some ⟨M, 0, none⟩)] 62)).heap.size) := by unfold Hid; simp; omega
 have HNV0 : Hid (v.ownBlock ≠ some M) := hU.cm.nv
 have HZ : Hid (differT C t u vars = stepsL (differC C t u vars) n ++ [someV vars n]) := by unfold Hid differT; rw [hn]
 have HDL : Hid (∀ k, k ≤ n → (stepsL (differC C t u vars) k).length = k * 2) := fun k _ => differ_len C t u vars k
 have HDS : Hid (∀ k, stepsL (differC C t u vars) (k + 1) = stepsL (differC C t u vars) k ++ [[-(vars + k + 1), numL (stL C.f C.a t k), numL (stL C.f C.a u k)], [-(vars + k + 1), -numL (stL C.f C.a t k), -numL (stL C.f C.a u k)]]) := fun k => differ_step C t u vars k
 have HSA := hide (fun (k : Nat) (hk : k < n) w' (hb : UnC w' M C last) => state_any M C last t k hi0 hi1 (by omega) ha0 (by omega) (by omega) ht1.1 (by omega) w' hb)
 have HSB := hide (fun (k : Nat) (hk : k < n) w' (hb : UnC w' M C last) => state_any M C last u k hi0 hi1 (by omega) ha0 (by omega) (by omega) hu1.1 (by omega) w' hb)
 have HST := hide (fun (k : Nat) (hk : k < n) => And.intro (stL_bd (f := C.f) (a := C.a) (t := t) (i := k) ht1.1 ht1.2 ha0 (by omega)) (stL_bd (f := C.f) (a := C.a) (t := u) (i := k) hu1.1 hu1.2 ha0 (by omega)))
 have HSN := hide hsn
 rw [hsn] at hv
 generalize differT C t u vars = Z at *
 rw [hn] at hl
 clear hC hU hb1 hnw ht1 hu1 hn hsn hfe hff hsm hs0
 go_enter Tryz.func60, Tryz.ntmps60
 go_wp2
 generalize w.alloc (.cells #[.pointer (some ⟨M, 0, none⟩)] 62) = w1 at *
 generalize w.heap.size = U at *
 go_loopw [6, 17] (fun s i wr => ∃ k : Nat, k ≤ n ∧ i = .int .i64 k ∧ Hid (DK w0 w1 M v vars rs C last t u k s wr)) (fun _ i _ => n - (intOf i).toNat)
 case atStart => exact ⟨0, Nat.zero_le _, rfl, v, rs, by simp [stepsL], by simpa using HU.out, Kp.refl _ _ _, sm_nil _ _ _ _ _⟩
 case round =>
   obtain ⟨k, hk, rfl, HD⟩ := hrel
   obtain ⟨v1, rs1, hn1, hU1, hk1, hS1⟩ := HD.out
   have hln := numsOf_lenE hn1
   rw [List.length_append, numsOf_len, HDL.out k hk] at hln
   obtain ⟨ps, cs, rfl, hIs, _⟩ := owns_ints hS1.own
   rw [someV_len] at *
   have x0 := ((HBX.out.kp hk1) _ _ (.head _)).1
   by_cases hlt : k < n
   · have hki : (k : Int) < (n : Int) := by omega
     obtain ⟨hst, hsu⟩ := HST.out k hlt
     have HNA := hide (fun w' => number_any (stL C.f C.a t k) (by omega) (by omega) w')
     have HNB := hide (fun w' => number_any (stL C.f C.a u k) (by omega) (by omega) w')
     have hna := numL_bd (x := stL C.f C.a t k) (by omega) (by omega)
     have hnb := numL_bd (x := stL C.f C.a u k) (by omega) (by omega)
     have HSA1 := hide (HSA.out k hlt)
     have HSB1 := hide (HSB.out k hlt)
     have HDK := hide (HDS.out k)
     have HSK : Hid (someV vars (k + 1) = someV vars k ++ [vars + k + 1]) := someV_succ vars k
     have HU1 := hide hU1
     have HK1 := hide hk1
     have HN1 := hide hn1
     have HS1 := hide hS1
     have hbd : Below wr.heap.size wr wr.drew := (Below.refl _ wr).drew
     clear hU1 hk1 hn1 hS1 hIs HD
     generalize stL C.f C.a t k = sa at *
     generalize stL C.f C.a u k = sb at *
     generalize numL sa = a at *
     generalize numL sb = b at *
     go_wp2
     go_region_held3 (fun w' => w'.cell? ⟨U, 0, none⟩ = some (.pointer (some ⟨M, 0, none⟩)))
       (first | exact cell_later hbB x0 | exact cell_later hbA x0 | exact cell_later hbd x0 | go_keep)
       (first
         | (go_at_call 55; have hq := hbB; refine (HNB.out _).mono ?_; rintro e wN ⟨rfl, hwN⟩; subst hwN)
         | (go_at_call 49; have hq := hbA; refine (HSB1.out _ (HU1.out.un.later hbA)).mono ?_; rintro e wB ⟨rfl, hb⟩; have hbB := bthen hbA hb)
         | (go_at_call 55; have hq := hbA; refine (HNA.out _).mono ?_; rintro e wN ⟨rfl, hwN⟩; subst hwN)
         | (go_at_call 49; refine (HSA1.out _ (HU1.out.un.later hbd)).mono ?_; rintro e wA ⟨rfl, hb⟩; have hbA := bthen hbd hb))
     all_goals
       rename_i hHeld
       have HU5 := hide (HU1.out.later hbB)
       have HX5 := hide ((HBX.out.kp HK1.out).later hbB)
       have HK5 := hide (HK1.out.trans (Kp.later (M := M) (v := v1) hbB))
       have HS5 := hide (HS1.out.later hbB)
       have y0 := cell_later hbB x0
       have HNV := hide (newV_any w0 wN M v1 (vars + k) rs1 C last (by omega) (by omega) HU5.out)
       obtain ⟨nv, HNVE⟩ : ∃ nv : Int, Hid (vars + (k : Int) + 1 = nv) := ⟨_, rfl⟩
       have hnv : 0 ≤ nv ∧ nv ≤ 300000 := by have := HNVE.out; omega
       rw [HNVE.out] at HNV HDK HSK
       clear hHeld hbA hbB hbd HSA1 HSB1 HNA HNB hq hb
       go_wp2_with fail
       refine HNV.out.mono ?_
       rintro e w6 ⟨rfl, hw6⟩
       have HU6 : Hid (Un w0 w6 M v1 nv rs1 C last) := by rw [hw6]; exact HU5.out.setV _
       have HK6 : Hid (Kp M w1 v w6 v1) := by rw [hw6]; exact HK5.out.trans (Kp.setV _)
       have HX6 : Hid (Bxs w6 v1 M [(⟨U, 0, none⟩, .pointer (some ⟨M, 0, none⟩))]) := by rw [hw6]; exact HX5.out.kp (Kp.setV _)
       have HS6 : Hid (Sm w1 w6 M v1 rs1 (.slice ps k cs) (someV vars k)) := by rw [hw6]; exact HS5.out.setV _
       have y6 := (HX6.out _ _ (.head _)).1
       clear hw6 HNV HU5 HX5 HK5 HS5 y0
       have wn := wrap_id (x := -nv) (by omega) (by omega)
       have wa := wrap_id (x := -a) (by omega) (by omega)
       have wb := wrap_id (x := -b) (by omega) (by omega)
       go_wp2_with fail
       refine (addF_any w0.heap.size M v1 nv rs1 (by omega) [-nv, a, b] (by simp) (some ⟨w6.heap.size, 0, none⟩) 3 _ (by have := HU6.out.sz; simp; omega) (HU6.out.cm.below (bal (Below.refl _ _) _)) (ints_three (-nv) a b)).mono ?_
       rintro e w7 ⟨rfl, v7, r7, hr7, hc7, hb7, hk7, hf7⟩
       have hbA : Below w6.heap.size w6 (w6.alloc (.cells #[.int .i64 (-nv), .int .i64 a, .int .i64 b] 3)) := bal (Below.refl _ _) _
       have HU7 := hide ((HU6.out.later hbA).next hc7 hb7 hk7)
       have HK7 := hide ((HK6.out.trans (Kp.later hbA)).trans hk7)
       have HX7 := hide ((HX6.out.later hbA).kp hk7)
       have HS7 := hide ((HS6.out.later hbA).add hk7 hf7)
       have HR7 := hide hr7
       have y7 := (HX7.out _ _ (.head _)).1
       clear hr7 hc7 hb7 hk7 hf7 hbA HU6 HK6 HX6 HS6 y6
       go_wp2_with fail
       refine (addF_any w0.heap.size M v7 nv (rs1 ++ [r7]) (by simp; omega) [-nv, -a, -b] (by simp) (some ⟨w7.heap.size, 0, none⟩) 3 _ (by have := HU7.out.sz; simp; omega) (HU7.out.cm.below (bal (Below.refl _ _) _)) (ints_three (-nv) (-a) (-b))).mono ?_
       rintro e w8 ⟨rfl, v8, r8, hr8, hc8, hb8, hk8, hf8⟩
       have hbA : Below w7.heap.size w7 (w7.alloc (.cells #[.int .i64 (-nv), .int .i64 (-a), .int .i64 (-b)] 3)) := bal (Below.refl _ _) _
       have HU8 := hide ((HU7.out.later hbA).next hc8 hb8 hk8)
       have HK8 := hide ((HK7.out.trans (Kp.later hbA)).trans hk8)
       have HX8 := hide ((HX7.out.later hbA).kp hk8)
       have HS8 := hide ((HS7.out.later hbA).add hk8 hf8)
       have HR8 := hide hr8
       clear hr8 hc8 hb8 hk8 hf8 hbA HU7 HK7 HX7 HS7 y7
       have hown8 := HS8.out.own
       rw [someV_len] at hown8
       obtain ⟨p9, c9, w9, hrun9, ho9, hg9, hat9⟩ := own_append_at (y := nv) hown8 (by have := HK8.out.sz; omega) (by omega)
       have hpush := sm_push (p := p9) (c := c9) HS8.out HU8.out HK8.out HU.out.un HNV0.out HW0.out (by rw [someV_len]; exact ho9) hg9 (by rw [someV_len]; exact hat9)
       rw [someV_len] at hpush
       have HD9 : Hid (DK w0 w1 M v vars rs C last t u (k + 1) (.slice p9 (k + 1) c9) w9) := by
         obtain ⟨h1, h2, h3⟩ := hpush
         exact ⟨v8, rs1 ++ [r7] ++ [r8], by rw [numsOf_app, numsOf_app, HR7.out, HR8.out, HN1.out, HDK.out]; simp, by rw [show vars + ((k + 1 : Nat) : Int) = nv by have := HNVE.out; omega]; exact h2, h3, by rw [HSK.out]; exact h1⟩
       clear hown8 ho9 hg9 hat9 hpush HU8 HK8 HX8 HS8 HR7 HR8 wa wb
       go_wp2_with (at_builtin; refine Lib.wpList_append_run _ rfl _ _ _ _ rfl _ _ rfl rfl _ _ hrun9 ?_)
       go_roundw
       case rel => exact ⟨k + 1, by omega, by go_num, HD9⟩
       case measure => simp [intOf]; omega
   · obtain rfl : k = n := by omega
     have HAD := hide (addC_any w0.heap.size M v1 (vars + k) rs1 (by omega) (someV vars k) (by rw [someV_len]; omega) ps cs wr hU1.sz hU1.cm hIs)
     rw [someV_len] at HAD
     have HU9 := hide hU1
     have HK9 := hide (HK.out.trans hk1)
     have HN9 := hide hn1
     clear hIs hn1 hU1 hk1 HD hln hS1
     go_wp2_with fail
     refine HAD.out.mono ?_
     rintro e w4 ⟨rfl, v4, r4, hr4, hc4, hb4, hk4⟩
     have HE := hide (show MkOut w0 w M v (vars + C.s) rs Z C last (.returned (.tuple #[])) w4 from ⟨rfl, v4, _, by rw [numsOf_app, hr4, HN9.out, HZ.out, List.append_assoc], by rw [HSN.out]; exact HU9.out.next hc4 hb4 hk4, HK9.out.trans hk4⟩)
     clear hr4 hc4 hb4 hk4 HAD
     go_wp2
     go_end0
     exact HE.out
end
end Go.Proofs.YtmambfdimeeijaaGreatDoor

namespace Go.Proofs.YtmambfdimeeijaaGreatDoor
open Go.RowKit Go.Maps Go.WideMaps
set_option maxRecDepth 100000
def cntP (last : Nat) : Nat → Nat
 | 0 => 0
 | t + 1 => cntP last t + (last - t)
def pairT (C : Ci) (last : Nat) (V : Int) (t j : Nat) : List (List Int) := differT C t (t + 1 + j) (V + ((cntP last t + j : Nat) : Int) * C.s)
def rowT (C : Ci) (last : Nat) (V : Int) (t m : Nat) : List (List Int) := stepsL (pairT C last V t) m
def rowsT (C : Ci) (last : Nat) (V : Int) (t : Nat) : List (List Int) := rowT C last V t (last - t)
def diffL (C : Ci) (last : Nat) (V : Int) : List (List Int) := stepsL (rowsT C last V) (last + 1)
theorem cntP_mono (last : Nat) {a b : Nat} (h : a ≤ b) : cntP last a ≤ cntP last b := by
 induction b with
 | zero => obtain rfl : a = 0 := by omega
           exact Nat.le_refl _
 | succ b ih =>
   by_cases e : a = b + 1
   · subst e; exact Nat.le_refl _
   · have := ih (by omega)
     show _ ≤ cntP last b + (last - b)
     omega
theorem cntP_two (last t : Nat) (h : t ≤ last + 1) : 2 * cntP last t + t * t = t * (2 * last + 1) := by
 induction t with
 | zero => simp [cntP]
 | succ t ih =>
   have h1 := ih (by omega)
   have e1 : (t + 1) * (t + 1) = t * t + 2 * t + 1 := by rw [Nat.add_mul, Nat.mul_add]; omega
   have e2 : (t + 1) * (2 * last + 1) = t * (2 * last + 1) + (2 * last + 1) := by rw [Nat.add_mul]; omega
   rw [e1, e2]
   show 2 * (cntP last t + (last - t)) + _ = _
   omega
theorem cntP_all (last : Nat) : 2 * cntP last (last + 1) = last * (last + 1) := by
 have h := cntP_two last (last + 1) (Nat.le_refl _)
 have e1 : (last + 1) * (last + 1) = last * (last + 1) + (last + 1) := by rw [Nat.add_mul]; omega
 have e2 : (last + 1) * (2 * last + 1) = 2 * (last * (last + 1)) + (last + 1) := by
   rw [Nat.mul_add, Nat.mul_one, ← Nat.mul_assoc, Nat.mul_comm (last + 1) 2, Nat.mul_assoc, Nat.mul_comm (last + 1) last]
 omega
theorem differT_len (C : Ci) (t u : Nat) (v : Int) : (differT C t u v).length = 2 * C.s.toNat + 1 := by
 unfold differT
 rw [List.length_append, differ_len]
 simp
 omega
theorem rowT_len (C : Ci) (last : Nat) (V : Int) (t m : Nat) : (rowT C last V t m).length = m * (2 * C.s.toNat + 1) := by
 unfold rowT
 induction m with
 | zero => simp [stepsL]
 | succ m ih =>
   rw [stepsL_succ, List.length_append, ih]
   unfold pairT
   rw [differT_len, Nat.add_mul m 1, Nat.one_mul]
theorem rows_len (C : Ci) (last : Nat) (V : Int) (t : Nat) : (stepsL (rowsT C last V) t).length = cntP last t * (2 * C.s.toNat + 1) := by
 induction t with
 | zero => simp [stepsL, cntP]
 | succ t ih =>
   rw [stepsL_succ, List.length_append, ih]
   show _ + (rowT C last V t (last - t)).length = (cntP last t + (last - t)) * _
   rw [rowT_len, Nat.add_mul]
def AtU (t j : Nat) (s : Int) : Prop := s = ((t + 1 + j : Nat) : Int)
def PK (w0 w : World) (M : Nat) (v : Value) (vars : Int) (rs : List Row) (C : Ci) (last n : Nat) (L : List (List Int)) (wr : World) : Prop :=
 ∃ v' rs', numsOf rs' = numsOf rs ++ L ∧ Un w0 wr M v' (vars + (n : Int) * C.s) rs' C last ∧ Kp M w v wr v'
set_option maxHeartbeats 16000000 in
theorem different_mk (w0 : World) (M : Nat) (C : Ci) (last : Nat) (hC : COk w0 C last) (U : Nat) (cs V0 : Int) :
   Makes w0 M C last ⟨(cntP last (last + 1) : Int) * C.s, cs, 59, #[.pointer (some ⟨U, 0, none⟩)], [(⟨U, 0, none⟩, .pointer (some ⟨M, 0, none⟩))], diffL C last V0, some V0⟩ := by
 intro w v vars rs hU hB hl hv0 hv hnd
 simp only at hB hl hv ⊢
 obtain rfl : vars = V0 := hnd V0 rfl
 have hs0 := hC.s0
 have hla := hC.la
 obtain ⟨n, hsn⟩ : ∃ n : Nat, C.s.toNat = n := ⟨_, rfl⟩
 have hsi : C.s = (n : Int) := by omega
 have hdl : (diffL C last vars).length = cntP last (last + 1) * (2 * n + 1) := by unfold diffL; rw [rows_len, hsn]
 rw [hdl] at hl
 have HB := hide hB
 have HU := hide hU
 have HZ : Hid (diffL C last vars = stepsL (rowsT C last vars) (last + 1)) := rfl
 have HRS : Hid (∀ t, stepsL (rowsT C last vars) (t + 1) = stepsL (rowsT C last vars) t ++ rowT C last vars t (last - t)) := fun t => stepsL_succ _ t
 have HPS : Hid (∀ t j, rowT C last vars t (j + 1) = rowT C last vars t j ++ differT C t (t + 1 + j) (vars + ((cntP last t + j : Nat) : Int) * C.s)) := fun t j => stepsL_succ _ j
 have HLR : Hid (∀ t, (stepsL (rowsT C last vars) t).length = cntP last t * (2 * n + 1)) := fun t => by rw [rows_len, hsn]
 have HLW : Hid (∀ t m, (rowT C last vars t m).length = m * (2 * n + 1)) := fun t m => by rw [rowT_len, hsn]
 have HCM : Hid (∀ t, t ≤ last → cntP last t + (last - t) ≤ cntP last (last + 1)) := fun t ht => cntP_mono last (show t + 1 ≤ last + 1 by omega)
 have HCS : Hid (∀ t, cntP last (t + 1) = cntP last t + (last - t)) := fun t => rfl
 have HDF := hide (fun t u (ht : t ≤ last) (hu : u ≤ last) w v' vs' rs' hU' hl' h0' hv' => differ_any w0 M C last hC t u ht hu w v' vs' rs' hU' hl' h0' hv')
 have HSN := hide (And.intro hsn hsi)
 have b0 := (hB _ _ (.head _)).1
 have u10 := hU.un.u10
 generalize hN : cntP last (last + 1) = N at *
 have HNE := hide hN
 clear hN
 generalize diffL C last vars = Z at *
 clear hB hU hnd hdl hsn hsi
 have wl := wrap_id (x := (last : Int) + 1) (by omega) (by omega)
 go_enter Tryz.func59, Tryz.ntmps59
 go_wp2
 go_loopw [9] (fun i wr => ∃ t : Nat, t ≤ last + 1 ∧ i = .int .i64 t ∧ Hid (PK w0 w M v vars rs C last (cntP last t) (stepsL (rowsT C last vars) t) wr)) (fun i _ => last + 1 - (intOf i).toNat)
 case atStart => exact ⟨0, Nat.zero_le _, rfl, v, rs, by simp [stepsL], by simpa [cntP] using HU.out, Kp.refl _ _ _⟩
 case round =>
   obtain ⟨t, ht, rfl, HD⟩ := hrel
   by_cases hlt : t ≤ last
   · have hti : (t : Int) < (last : Int) + 1 := by omega
     have wt := wrap_id (x := (t : Int) + 1) (by omega) (by omega)
     have y0 : wr.cell? ⟨U, 0, none⟩ = some (.pointer (some ⟨M, 0, none⟩)) := by
       obtain ⟨v1, rs1, hn1, hU1, hk1⟩ := HD.out
       exact ((HB.out.kp hk1) _ _ (.head _)).1
     clear y0
     go_wp2
     go_loopw [2] (fun i wr => ∃ j : Nat, ∃ s : Int, j ≤ last - t ∧ Hid (AtU t j s) ∧ i = .int .i64 s ∧ Hid (PK w0 w M v vars rs C last (cntP last t + j) (stepsL (rowsT C last vars) t ++ rowT C last vars t j) wr)) (fun i _ => last + 1 - (intOf i).toNat)
     case atStart => exact ⟨0, (t : Int) + 1, Nat.zero_le _, by unfold Hid AtU; simp, rfl, by simpa [rowT, stepsL, Hid] using HD.out⟩
     case round =>
       obtain ⟨j, s, hj, HSA, rfl, HD2⟩ := hrel
       have hs2 : s = ((t + 1 + j : Nat) : Int) := HSA.out
       have hsb : 1 ≤ s ∧ s ≤ 41 := by omega
       have HSS := hide hs2
       obtain ⟨v1, rs1, hn1, hU1, hk1⟩ := HD2.out
       have hln := numsOf_lenE hn1
       rw [List.length_append, List.length_append, numsOf_len, HLR.out, HLW.out, ← Nat.add_mul] at hln
       have y0 := ((HB.out.kp hk1) _ _ (.head _)).1
       have y10 := hU1.un.u10
       by_cases hjl : j < last - t
       · have hsl : s ≤ (last : Int) := by omega
         have hcm := HCM.out t hlt
         have hm1 : (cntP last t + j + 1) * (2 * n + 1) ≤ N * (2 * n + 1) := Nat.mul_le_mul_right _ (by omega)
         rw [Nat.add_mul (cntP last t + j) 1, Nat.one_mul] at hm1
         have hm2 : ((cntP last t + j + 1 : Nat) : Int) * C.s ≤ (N : Int) * C.s := Int.mul_le_mul_of_nonneg_right (by omega) hs0
         have hm3 : ((cntP last t + j + 1 : Nat) : Int) * C.s = ((cntP last t + j : Nat) : Int) * C.s + C.s := by rw [Int.natCast_add (cntP last t + j) 1, Int.add_mul]; simp
         have hm4 : 0 ≤ ((cntP last t + j : Nat) : Int) * C.s := Int.mul_nonneg (by omega) hs0
         have HDA := hide (HDF.out t (t + 1 + j) hlt (by omega) wr v1 _ rs1 hU1 (by rw [HSN.out.1]; omega) (by omega) (by omega))
         rw [← hs2] at HDA
         have HN1 := hide hn1
         have HK1 := hide hk1
         have HPJ := hide (HPS.out t j)
         have HM3 := hide hm3
         clear hn1 hU1 hk1 hln hm1 hm2 hm3 hm4 hcm HD2 hs2
         generalize differT C t (t + 1 + j) (vars + ((cntP last t + j : Nat) : Int) * C.s) = X at *
         go_wp2_with fail
         refine HDA.out.mono ?_
         rintro e w4 ⟨rfl, v4, rs4, hn4, hU4, hk4⟩
         have HD4 : Hid (PK w0 w M v vars rs C last (cntP last t + (j + 1)) (stepsL (rowsT C last vars) t ++ rowT C last vars t (j + 1)) w4) :=
           ⟨v4, rs4, by rw [hn4, HN1.out, HPJ.out]; simp, by rw [show ((cntP last t + (j + 1) : Nat) : Int) * C.s = ((cntP last t + j : Nat) : Int) * C.s + C.s from HM3.out, ← Int.add_assoc]; exact hU4, HK1.out.trans hk4⟩
         clear hn4 hU4 hk4 HDA HPJ HM3 y0 y10
         go_wp2
         go_roundw
         case rel => exact ⟨j + 1, s + 1, by omega, by unfold Hid AtU; rw [HSS.out]; omega, by go_num, HD4⟩
         case measure => simp [intOf]; omega
       · obtain rfl : j = last - t := by omega
         have hsl : ¬ s ≤ (last : Int) := by omega
         have HD4 : Hid (PK w0 w M v vars rs C last (cntP last (t + 1)) (stepsL (rowsT C last vars) (t + 1)) wr) := by unfold Hid; rw [HCS.out, HRS.out]; exact HD2.out
         clear hn1 hU1 hk1 hln HD2 hs2
         go_wp2
         go_roundw
         case rel => exact ⟨t + 1, by omega, by go_num, HD4⟩
         case measure => simp [intOf]; omega
   · obtain rfl : t = last + 1 := by omega
     have hnt : ¬ ((last + 1 : Nat) : Int) < (last : Int) + 1 := by omega
     obtain ⟨v1, rs1, hn1, hU1, hk1⟩ := HD.out
     have HE : Hid (MkOut w0 w M v (vars + (N : Int) * C.s) rs Z C last (.returned (.tuple #[])) wr) := ⟨rfl, v1, rs1, by rw [hn1, HZ.out], by rw [← HNE.out]; exact hU1, hk1⟩
     clear hn1 hU1 hk1 HD
     go_wp2
     go_end0
     exact HE.out
end Go.Proofs.YtmambfdimeeijaaGreatDoor
