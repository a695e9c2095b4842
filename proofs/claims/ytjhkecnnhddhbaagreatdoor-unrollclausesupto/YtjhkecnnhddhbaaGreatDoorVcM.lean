/- Fit, and what it is held against: both return the same. -/
import Derived.Test.YtjhkecnnhddhbaaGreatDoorVbM
import Derived.Deep.Light
namespace Go.Proofs.YtjhkecnnhddhbaaGreatDoor.Ev
open Go.RowKit
set_option maxRecDepth 100000
abbrev arr3 (a b c : Int) : Value := .agg #[.int .i64 a, .int .i64 b, .int .i64 c]
def rngOk (t a b c : Int) : Bool :=
 (if 0 < t then btw a 1 8 else a == 0) && (if 1 < t then btw b 1 8 else b == 0) && (if 2 < t then btw c 1 8 else c == 0)
def metOk (o da db dc own n a b c : Int) : Bool :=
 askOk o own own a n && askOk da a own a n && askOk db b own a n && askOk dc c own a n
set_option maxHeartbeats 400000 in
theorem met_any (o da db dc own n a b c : Int) (w : World)
   (b1 : 0 ≤ own ∧ own ≤ 8) (b2 : 0 ≤ a ∧ a ≤ 8) (b3 : 0 ≤ b ∧ b ≤ 8) (b4 : 0 ≤ c ∧ c ≤ 8) :
   Calls Tryz.prog 163 #[dm o da db dc, .int .i64 own, .int .i64 n, arr3 a b c] w fun e w' => e = .returned (.bool (metOk o da db dc own n a b c)) ∧ w' = (((w.alloc (.cells #[.int .i64 o, .int .i64 da, .int .i64 db, .int .i64 dc] 179)).alloc (.cells #[.int .i64 own] 3)).alloc (.cells #[.int .i64 n] 3)).alloc (.cells #[.int .i64 a, .int .i64 b, .int .i64 c] 164) := by
 have hmf : ∀ (fn : Fn) (first cap : Array Value) (w : World), (Instr.makeFunc fn first cap).run Tryz.prog w = .ok (.func fn first cap) w := fun _ _ _ _ => rfl
 go_enter Tryz.func163, Tryz.ntmps163
 go_wp2_with (go_at_call 184; refine (meets_any _ _ own n a _ _ _ _ (by simp [go_sem]) (by simp [go_sem]) (by simp [go_sem]) (by omega) (by omega) (by omega)).mono ?_; rintro e w' ⟨rfl, rfl⟩)
 all_goals
   go_ret
   exact ⟨ret_bool (by unfold metOk; simp [*]), rfl⟩
set_option maxRecDepth 100000 in
set_option maxHeartbeats 1000000 in
theorem inRange_at (k a b c t : Int) (ht : takes k = t) (h4 : t = 0 ∨ t = 1 ∨ t = 2 ∨ t = 3) (w : World) :
   Calls Tryz.prog 162 #[.int .i64 k, arr3 a b c] w fun e w' => e = .returned (.bool (rngOk t a b c)) ∧ w' = w.alloc (.cells #[.int .i64 a, .int .i64 b, .int .i64 c] 164) := by
 have i0 : ∀ w : World, (Instr.index 164 (arr3 a b c) (.int .i64 0)).run Tryz.prog w = .ok (.int .i64 a) w := fun _ => by kernel_rfl
 have i1 : ∀ w : World, (Instr.index 164 (arr3 a b c) (.int .i64 1)).run Tryz.prog w = .ok (.int .i64 b) w := fun _ => by kernel_rfl
 have i2 : ∀ w : World, (Instr.index 164 (arr3 a b c) (.int .i64 2)).run Tryz.prog w = .ok (.int .i64 c) w := fun _ => by kernel_rfl
 rcases h4 with rfl | rfl | rfl | rfl
 all_goals
   have hw := words_any k
   rw [ht] at hw
   have hw' : Hid _ := hw
   clear hw ht
   go_enter Tryz.func162, Tryz.ntmps162
   go_wp2_with (go_at_call 131; refine (hw'.out _).mono ?_; rintro e w' ⟨rfl, rfl⟩)
   refine wp_loop_rounds 4 ?_
   rw [rounds_succ]
   go_wp2_with (go_at_call 106; refine (isWidth_any _ _).mono ?_; rintro e w' ⟨rfl, rfl⟩)
   all_goals try (rw [rounds_succ]; go_wp2_with (go_at_call 106; refine (isWidth_any _ _).mono ?_; rintro e w' ⟨rfl, rfl⟩))
   all_goals try (rw [rounds_succ]; go_wp2_with (go_at_call 106; refine (isWidth_any _ _).mono ?_; rintro e w' ⟨rfl, rfl⟩))
   all_goals try (rw [rounds_succ]; go_wp2_with (go_at_call 106; refine (isWidth_any _ _).mono ?_; rintro e w' ⟨rfl, rfl⟩))
   all_goals
     go_ret
     exact ⟨ret_bool (by unfold rngOk; simp_all), rfl⟩
theorem takes_four (k : Int) : takes k = 0 ∨ takes k = 1 ∨ takes k = 2 ∨ takes k = 3 := by
 unfold takes
 (repeat' split) <;> simp
theorem inRange_any (k a b c : Int) (w : World) :
   Calls Tryz.prog 162 #[.int .i64 k, arr3 a b c] w fun e w' => e = .returned (.bool (rngOk (takes k) a b c)) ∧ w' = w.alloc (.cells #[.int .i64 a, .int .i64 b, .int .i64 c] 164) :=
 inRange_at k a b c _ rfl (takes_four k) w
theorem bal {w w1 : World} (h : Below w.heap.size w w1) (o : Obj) : Below w.heap.size w (w1.alloc o) := h.alloc h.size o
end Go.Proofs.YtjhkecnnhddhbaaGreatDoor.Ev

namespace Go.Proofs.YtjhkecnnhddhbaaGreatDoor.Ev
open Go.RowKit
set_option maxRecDepth 100000
def metS (s own n a b c : Int) : Bool :=
 if s = 1 then metOk 0 2 0 0 own n a b c else if s = 2 then metOk 0 2 2 0 own n a b c else if s = 3 then metOk 1 0 3 0 own n a b c
 else if s = 4 then metOk 0 1 2 2 own n a b c else if s = 5 then metOk 0 0 4 0 own n a b c else if s = 6 then metOk 0 5 0 0 own n a b c else metOk 0 6 0 0 own n a b c
def fitE (k own n a b c : Int) : Int :=
 if shape k = 0 then 7 else if btw own 1 8 = false then 3 else if rngOk (takes k) a b c = false then 3
 else if k ≠ 21 ∧ n ≠ 0 then 1 else if metS (shape k) own n a b c then 0 else 1
theorem run_lk (w : World) (k : Int) (r : Option (Nat × Value)) (v : Value) (ok : Bool) 
   (h : Instr.findNow (.int .i64) (.int .i64 k) dmMap.toList 0 = some r) (h2 : (r.map (·.2)).getD (dm 0 0 0 0) = v) (h3 : r.isSome = ok) :
   (Instr.lookup 181 (.map (some w.heap.size)) (.int .i64 k) true).run Tryz.prog (w.alloc (.map dmMap 7)) = .ok (.tuple #[v, .bool ok]) (w.alloc (.map dmMap 7)) := by
 have hb : (w.alloc (.map dmMap 7)).heap[w.heap.size]? = some (.map dmMap 7) := (MapKept.heap_alloc w _).1
 have hk : (Instr.checkKey dmMap.isEmpty 10000 183 (.int .i64 k)).run Tryz.prog (w.alloc (.map dmMap 7)) = .ok () (w.alloc (.map dmMap 7)) := checkKey_int Tryz.underlying183 dmMap.isEmpty 9999 (.int .i64 k) (w.alloc (.map dmMap 7))
 have hz : (zeroValue 179).run Tryz.prog (w.alloc (.map dmMap 7)) = .ok (dm 0 0 0 0) (w.alloc (.map dmMap 7)) := by kernel_rfl
 unfold Instr.lookup
 simp only [Sem.run_bind, run_underlying Tryz.underlying181, MapKept.run_getObj_map hb, Result.andThen]
 subst h2 h3
 cases r with
 | none => simp [Instr.findKey, run_underlying Tryz.underlying183, h, hz, hk]
 | some p => simp [Instr.findKey, run_underlying Tryz.underlying183, h, hk]
theorem shape_eight (k : Int) : shape k = 0 ∨ shape k = 1 ∨ shape k = 2 ∨ shape k = 3 ∨ shape k = 4 ∨ shape k = 5 ∨ shape k = 6 ∨ shape k = 7 := by
 unfold shape
 (repeat' split) <;> simp
theorem fit_none (k own n a b c : Int) (w : World) (hs : shape k = 0) :
   Calls Tryz.prog 132 #[.int .i64 k, .int .i64 own, .int .i64 n, arr3 a b c] w fun e w' => e = .returned (.int .i64 (fitE k own n a b c)) ∧ Below w.heap.size w w' := by
 have hl := run_lk (w.alloc (.cells #[.int .i64 a, .int .i64 b, .int .i64 c] 164)) 0 none (dm 0 0 0 0) false (by rfl) rfl rfl
 rw [show (w.alloc (.cells #[.int .i64 a, .int .i64 b, .int .i64 c] 164)).heap.size = w.heap.size + 1 from by simp] at hl
 have hfin : fitE k own n a b c = 7 := by unfold fitE; rw [if_pos hs]
 have Hfin : Hid _ := hfin
 have hsh := shapeOf_any k
 rw [hs] at hsh
 have Hsh : Hid _ := hsh
 clear hfin hsh hs
 go_enter Tryz.func132, Tryz.ntmps132
 go_wp2_with (first | (go_at_call 160; refine (demands_any _).mono ?_; rintro e w' ⟨rfl, rfl⟩) | (go_at_call 161; refine (Hsh.out _).mono ?_; rintro e w' ⟨rfl, rfl⟩))
 go_ret
 exact ⟨ret_int Hfin.out.symm, bal (bal (bal (Below.refl _ _) _) _) _⟩
def fitR (k own n a b c : Int) (m : Bool) : Int :=
 if btw own 1 8 = false then 3 else if rngOk (takes k) a b c = false then 3
 else if k ≠ 21 ∧ n ≠ 0 then 1 else if m then 0 else 1
theorem btw_bd {x : Int} (h : btw x 1 8 = true) : 0 ≤ x ∧ x ≤ 8 := by rw [btw_true] at h; omega
theorem rng_bd {t a b c : Int} (h : rngOk t a b c = true) : (0 ≤ a ∧ a ≤ 8) ∧ (0 ≤ b ∧ b ≤ 8) ∧ (0 ≤ c ∧ c ≤ 8) := by
 unfold rngOk at h
 simp only [Bool.and_eq_true] at h
 obtain ⟨⟨h1, h2⟩, h3⟩ := h
 refine ⟨?_, ?_, ?_⟩
 · split at h1
   · exact btw_bd h1
   · simp at h1; omega
 · split at h2
   · exact btw_bd h2
   · simp at h2; omega
 · split at h3
   · exact btw_bd h3
   · simp at h3; omega
set_option maxRecDepth 100000 in
set_option maxHeartbeats 1000000 in
theorem fit_some (k own n a b c s o da db dc : Int) (i : Nat) (w : World) (hs : shape k = s) 
   (hf : Instr.findNow (.int .i64) (.int .i64 s) dmMap.toList 0 = some (some (i, dm o da db dc))) :
   Calls Tryz.prog 132 #[.int .i64 k, .int .i64 own, .int .i64 n, arr3 a b c] w fun e w' => e = .returned (.int .i64 (fitR k own n a b c (metOk o da db dc own n a b c))) ∧ Below w.heap.size w w' := by
 have hl := run_lk (w.alloc (.cells #[.int .i64 a, .int .i64 b, .int .i64 c] 164)) s (some (i, dm o da db dc)) (dm o da db dc) true hf rfl rfl
 rw [show (w.alloc (.cells #[.int .i64 a, .int .i64 b, .int .i64 c] 164)).heap.size = w.heap.size + 1 from by simp] at hl
 have hsh := shapeOf_any k
 rw [hs] at hsh
 have Hsh : Hid _ := hsh
 clear hsh hs hf
 by_cases hb : btw own 1 8 = true
 · have hbd := btw_bd hb
   by_cases hr : rngOk (takes k) a b c = true
   · obtain ⟨ba, bb, bc⟩ := rng_bd hr
     by_cases hk : (k != 21) = true
     · by_cases hn : (n != 0) = true
       · have Hfin : Hid (fitR k own n a b c (metOk o da db dc own n a b c) = 1) := by
           unfold fitR; simp only [bne_iff_ne] at hk hn; simp [hb, hr, hk, hn, Hid]
         go_enter Tryz.func132, Tryz.ntmps132
         go_wp2_with (first | (go_at_call 160; refine (demands_any _).mono ?_; rintro e w' ⟨rfl, rfl⟩) | (go_at_call 161; refine (Hsh.out _).mono ?_; rintro e w' ⟨rfl, rfl⟩) | (go_at_call 106; refine (isWidth_any _ _).mono ?_; rintro e w' ⟨rfl, rfl⟩) | (go_at_call 162; refine (inRange_any _ _ _ _ _).mono ?_; rintro e w' ⟨rfl, rfl⟩))
         go_ret
         exact ⟨ret_int Hfin.out.symm, bal (bal (bal (bal (Below.refl _ _) _) _) _) _⟩
       · have hn' : (n != 0) = false := by simpa using hn
         have Hfin : Hid (fitR k own n a b c (metOk o da db dc own n a b c) = if metOk o da db dc own n a b c then 0 else 1) := by
           unfold fitR; have : n = 0 := by simpa using hn'
           simp [hb, hr, this, Hid]
         clear hn
         generalize hm : metOk o da db dc own n a b c = m at *
         have hmet := fun w => met_any o da db dc own n a b c w hbd ba bb bc
         rw [hm] at hmet
         have Hmet : Hid _ := hmet
         clear hmet hm
         cases m
         all_goals
           go_enter Tryz.func132, Tryz.ntmps132
           go_wp2_with (first | (go_at_call 160; refine (demands_any _).mono ?_; rintro e w' ⟨rfl, rfl⟩) | (go_at_call 161; refine (Hsh.out _).mono ?_; rintro e w' ⟨rfl, rfl⟩) | (go_at_call 106; refine (isWidth_any _ _).mono ?_; rintro e w' ⟨rfl, rfl⟩) | (go_at_call 162; refine (inRange_any _ _ _ _ _).mono ?_; rintro e w' ⟨rfl, rfl⟩) | (go_at_call 163; refine (Hmet.out _).mono ?_; rintro e w' ⟨rfl, rfl⟩))
           go_ret
           exact ⟨ret_int (by rw [Hfin.out]; simp), by repeat (first | exact Below.refl _ _ | refine bal ?_ _)⟩
     · have hk' : (k != 21) = false := by simpa using hk
       have Hfin : Hid (fitR k own n a b c (metOk o da db dc own n a b c) = if metOk o da db dc own n a b c then 0 else 1) := by
         unfold fitR; have : k = 21 := by simpa using hk'
         subst this; simp [hb, hr, Hid]
       clear hk
       generalize hm : metOk o da db dc own n a b c = m at *
       have hmet := fun w => met_any o da db dc own n a b c w hbd ba bb bc
       rw [hm] at hmet
       have Hmet : Hid _ := hmet
       clear hmet hm
       cases m
       all_goals
         go_enter Tryz.func132, Tryz.ntmps132
         go_wp2_with (first | (go_at_call 160; refine (demands_any _).mono ?_; rintro e w' ⟨rfl, rfl⟩) | (go_at_call 161; refine (Hsh.out _).mono ?_; rintro e w' ⟨rfl, rfl⟩) | (go_at_call 106; refine (isWidth_any _ _).mono ?_; rintro e w' ⟨rfl, rfl⟩) | (go_at_call 162; refine (inRange_any _ _ _ _ _).mono ?_; rintro e w' ⟨rfl, rfl⟩) | (go_at_call 163; refine (Hmet.out _).mono ?_; rintro e w' ⟨rfl, rfl⟩))
         go_ret
         exact ⟨ret_int (by rw [Hfin.out]; simp), by repeat (first | exact Below.refl _ _ | refine bal ?_ _)⟩
   · have hr' : rngOk (takes k) a b c = false := by simpa using hr
     have Hfin : Hid (fitR k own n a b c (metOk o da db dc own n a b c) = 3) := by
       unfold fitR; simp [hb, hr', Hid]
     clear hr
     go_enter Tryz.func132, Tryz.ntmps132
     go_wp2_with (first | (go_at_call 160; refine (demands_any _).mono ?_; rintro e w' ⟨rfl, rfl⟩) | (go_at_call 161; refine (Hsh.out _).mono ?_; rintro e w' ⟨rfl, rfl⟩) | (go_at_call 106; refine (isWidth_any _ _).mono ?_; rintro e w' ⟨rfl, rfl⟩) | (go_at_call 162; refine (inRange_any _ _ _ _ _).mono ?_; rintro e w' ⟨rfl, rfl⟩))
     go_ret
     exact ⟨ret_int Hfin.out.symm, by repeat (first | exact Below.refl _ _ | refine bal ?_ _)⟩
 · have hb' : btw own 1 8 = false := by simpa using hb
   have Hfin : Hid (fitR k own n a b c (metOk o da db dc own n a b c) = 3) := by
     unfold fitR; simp [hb', Hid]
   clear hb
   go_enter Tryz.func132, Tryz.ntmps132
   go_wp2_with (first | (go_at_call 160; refine (demands_any _).mono ?_; rintro e w' ⟨rfl, rfl⟩) | (go_at_call 161; refine (Hsh.out _).mono ?_; rintro e w' ⟨rfl, rfl⟩) | (go_at_call 106; refine (isWidth_any _ _).mono ?_; rintro e w' ⟨rfl, rfl⟩) | (go_at_call 162; refine (inRange_any _ _ _ _ _).mono ?_; rintro e w' ⟨rfl, rfl⟩))
   go_ret
   exact ⟨ret_int Hfin.out.symm, by repeat (first | exact Below.refl _ _ | refine bal ?_ _)⟩
theorem fitE_some (k own n a b c : Int) (h : shape k ≠ 0) : fitE k own n a b c = fitR k own n a b c (metS (shape k) own n a b c) := by
 unfold fitE fitR
 rw [if_neg h]
theorem fit_any (k own n a b c : Int) (w : World) :
   Calls Tryz.prog 132 #[.int .i64 k, .int .i64 own, .int .i64 n, arr3 a b c] w fun e w' => e = .returned (.int .i64 (fitE k own n a b c)) ∧ Below w.heap.size w w' := by
 rcases shape_eight k with h | h | h | h | h | h | h | h
 · exact fit_none k own n a b c w h
 · rw [fitE_some k own n a b c (by omega), h]; exact fit_some k own n a b c 1 _ _ _ _ 0 w h rfl
 · rw [fitE_some k own n a b c (by omega), h]; exact fit_some k own n a b c 2 _ _ _ _ 1 w h rfl
 · rw [fitE_some k own n a b c (by omega), h]; exact fit_some k own n a b c 3 _ _ _ _ 2 w h rfl
 · rw [fitE_some k own n a b c (by omega), h]; exact fit_some k own n a b c 4 _ _ _ _ 3 w h rfl
 · rw [fitE_some k own n a b c (by omega), h]; exact fit_some k own n a b c 5 _ _ _ _ 4 w h rfl
 · rw [fitE_some k own n a b c (by omega), h]; exact fit_some k own n a b c 6 _ _ _ _ 5 w h rfl
 · rw [fitE_some k own n a b c (by omega), h]; exact fit_some k own n a b c 7 _ _ _ _ 6 w h rfl
end Go.Proofs.YtjhkecnnhddhbaaGreatDoor.Ev

namespace Go.Proofs.YtjhkecnnhddhbaaGreatDoor.Ev
open Go.RowKit
set_option maxRecDepth 100000
def okOf (k own n a b c : Int) : Bool :=
 if k = 4 ∨ k = 5 then a == own else if 6 ≤ k ∧ k ≤ 15 then a == own && b == own else if 16 ≤ k ∧ k ≤ 18 then a == b && own == 1
 else if k = 19 then a == 1 && b == own && c == own else if k = 20 then a + b == own
 else if k = 21 then decide (0 ≤ n) && decide (n ≤ 8) && decide (n + own ≤ a) else decide (a ≤ own)
def refE (k own n a b c : Int) : Int :=
 if takes k = 0 then 7 else if btw own 1 8 = false then 3 else if rngOk (takes k) a b c = false then 3
 else if okOf k own n a b c = false ∨ (k ≠ 21 ∧ n ≠ 0) then 1 else 0
end Go.Proofs.YtjhkecnnhddhbaaGreatDoor.Ev

namespace Go.Proofs.YtjhkecnnhddhbaaGreatDoor.Ev
theorem met1 (own n a b c : Int) : metOk 0 2 0 0 own n a b c = (a == own) := by simp [metOk, askOk]
theorem met2 (own n a b c : Int) : metOk 0 2 2 0 own n a b c = (a == own && b == own) := by simp [metOk, askOk]
theorem met3 (own n a b c : Int) : metOk 1 0 3 0 own n a b c = (own == 1 && b == a) := by simp [metOk, askOk]
theorem met4 (own n a b c : Int) : metOk 0 1 2 2 own n a b c = (a == 1 && b == own && c == own) := by simp [metOk, askOk]
theorem met5 (own n a b c : Int) : metOk 0 0 4 0 own n a b c = (b == own - a) := by simp [metOk, askOk]
theorem met6 (own n a b c : Int) : metOk 0 5 0 0 own n a b c = (decide (0 ≤ n) && decide (n ≤ a - own)) := by simp [metOk, askOk]
theorem met7 (own n a b c : Int) : metOk 0 6 0 0 own n a b c = decide (a ≤ own) := by simp [metOk, askOk]
theorem takes_shape (k : Int) : takes k = 0 ↔ shape k = 0 := by
 unfold takes shape
 (repeat' split) <;> omega
theorem shape_pos {k : Int} (hs : shape k ≠ 0) : 4 ≤ k ∧ k ≤ 23 := by
 apply Classical.byContradiction
 intro hn
 exact hs (by unfold shape; rw [if_pos hn])
theorem met_ok (k own n a b c : Int) (hs : shape k ≠ 0) (h : 1 ≤ own ∧ own ≤ 8) (ha : 0 ≤ a ∧ a ≤ 8) : metS (shape k) own n a b c = okOf k own n a b c := by
 have hk := shape_pos hs
 clear hs
 unfold metS okOf
 rw [met1, met2, met3, met4, met5, met6, met7]
 rw [Bool.eq_iff_iff]
 by_cases h5 : k ≤ 5
 · have e : shape k = 1 := by unfold shape; (repeat' split) <;> omega
   rw [e]
   simp [show k = 4 ∨ k = 5 from by omega]
 by_cases h15 : k ≤ 15
 · have e : shape k = 2 := by unfold shape; (repeat' split) <;> omega
   rw [e]
   simp [show ¬ (k = 4 ∨ k = 5) from by omega, show 6 ≤ k ∧ k ≤ 15 from by omega]
 by_cases h18 : k ≤ 18
 · have e : shape k = 3 := by unfold shape; (repeat' split) <;> omega
   rw [e]
   simp [show ¬ (k = 4 ∨ k = 5) from by omega, show ¬ (6 ≤ k ∧ k ≤ 15) from by omega, show 16 ≤ k ∧ k ≤ 18 from by omega]; omega
 by_cases h19 : k = 19
 · have e : shape k = 4 := by unfold shape; (repeat' split) <;> omega
   rw [e]
   simp [h19]
 by_cases h20 : k = 20
 · have e : shape k = 5 := by unfold shape; (repeat' split) <;> omega
   rw [e]
   simp [h20]; omega
 by_cases h21 : k = 21
 · have e : shape k = 6 := by unfold shape; (repeat' split) <;> omega
   rw [e]
   simp [h21]; omega
 · have e : shape k = 7 := by unfold shape; (repeat' split) <;> omega
   rw [e]
   simp [h19, h20, h21, show ¬ (k = 4 ∨ k = 5) from by omega, show ¬ (6 ≤ k ∧ k ≤ 15) from by omega, show ¬ (16 ≤ k ∧ k ≤ 18) from by omega]
theorem ref_fit (k own n a b c : Int) : refE k own n a b c = fitE k own n a b c := by
 unfold refE fitE
 by_cases hs : shape k = 0
 · rw [if_pos ((takes_shape k).2 hs), if_pos hs]
 rw [if_neg (fun h => hs ((takes_shape k).1 h)), if_neg hs]
 by_cases hb : btw own 1 8 = false
 · rw [if_pos hb, if_pos hb]
 rw [if_neg hb, if_neg hb]
 by_cases hr : rngOk (takes k) a b c = false
 · rw [if_pos hr, if_pos hr]
 rw [if_neg hr, if_neg hr]
 have hb' : btw own 1 8 = true := by simpa using hb
 have hr' : rngOk (takes k) a b c = true := by simpa using hr
 rw [met_ok k own n a b c hs (btw_true.1 hb') (rng_bd hr').1]
 cases okOf k own n a b c <;> by_cases hk : k ≠ 21 ∧ n ≠ 0 <;> simp [hk]
end Go.Proofs.YtjhkecnnhddhbaaGreatDoor.Ev

namespace Go.Proofs.YtjhkecnnhddhbaaGreatDoor.Ev
open Go.RowKit
set_option maxRecDepth 100000
def madeE (k v a b c n wa wb : Int) : Int :=
 if k = 4 then two v - 1 - a
 else if k = 5 then (two v - a) % two v
 else if k = 6 then ((a.toNat &&& b.toNat : Nat) : Int)
 else if k = 7 then ((a.toNat ||| b.toNat : Nat) : Int)
 else if k = 8 then ((a.toNat ^^^ b.toNat : Nat) : Int)
 else if k = 9 then (a + b) % two v
 else if k = 10 then (a + two v - b) % two v
 else if k = 11 then a * b % two v
 else if k = 12 then if b = 0 then two v - 1 else a / b
 else if k = 13 then if b = 0 then a else a % b
 else if k = 14 then if v ≤ b then 0 else a * two b % two v
 else if k = 15 then if v ≤ b then 0 else a / two b
 else if k = 16 then yesOf (a == b)
 else if k = 17 then yesOf (decide (a < b))
 else if k = 18 then yesOf (decide (sgn a wa < sgn b wb))
 else if k = 19 then if a = 1 then b else c
 else if k = 20 then a * two wb + b
 else if k = 21 then a / two n % two v
 else if k = 23 then (sgn a wa + two v) % two v
 else a
theorem fit_zero {k v n a b c : Int} (h : fitE k v n a b c = 0) :
   (1 ≤ v ∧ v ≤ 8) ∧ rngOk (takes k) a b c = true ∧ okOf k v n a b c = true ∧ (k = 21 ∨ n = 0) ∧ (4 ≤ k ∧ k ≤ 23) := by
 rw [← ref_fit] at h
 unfold refE at h
 by_cases h1 : takes k = 0
 · rw [if_pos h1] at h; omega
 rw [if_neg h1] at h
 by_cases h2 : btw v 1 8 = false
 · rw [if_pos h2] at h; omega
 rw [if_neg h2] at h
 by_cases h3 : rngOk (takes k) a b c = false
 · rw [if_pos h3] at h; omega
 rw [if_neg h3] at h
 by_cases h4 : okOf k v n a b c = false ∨ (k ≠ 21 ∧ n ≠ 0)
 · rw [if_pos h4] at h; omega
 refine ⟨btw_true.1 (by simpa using h2), by simpa using h3, ?_, ?_, shape_pos (fun e => h1 ((takes_shape k).2 e))⟩
 · apply Classical.byContradiction
   intro hn
   exact h4 (Or.inl (by simpa using hn))
 · apply Classical.byContradiction
   intro hn
   exact h4 (Or.inr (by omega))
theorem emod_small {x m : Int} (h0 : 0 ≤ x) (h1 : x < m) : x % m = x := Int.emod_eq_of_lt h0 h1
theorem m4 (v a b c n wa wb : Int) (h0 : 0 ≤ a) (h1 : a < two v) : (- a - 1) % two v = madeE 4 v a b c n wa wb := by
 show _ = two v - 1 - a
 have : - a - 1 = (two v - 1 - a) + two v * (-1) := by omega
 rw [this, Int.add_mul_emod_self_left, emod_small (by omega) (by omega)]
theorem m5 (v a b c n wa wb : Int) : (- a) % two v = madeE 5 v a b c n wa wb := by
 show _ = (two v - a) % two v
 have : two v - a = - a + two v * 1 := by omega
 rw [this, Int.add_mul_emod_self_left]
theorem two_nat (v : Int) : two v = ((2 ^ v.toNat : Nat) : Int) := by simp [two]
theorem m6 (v a b c n wa wb : Int) (g0 : 0 ≤ b) (g1 : b < two v) : ((a.toNat &&& b.toNat : Nat) : Int) % two v = madeE 6 v a b c n wa wb := by
 show _ = ((a.toNat &&& b.toNat : Nat) : Int)
 have : a.toNat &&& b.toNat < 2 ^ v.toNat := Nat.and_lt_two_pow _ (by rw [two_nat] at g1; omega)
 exact emod_small (by omega) (by rw [two_nat]; omega)
theorem m7 (v a b c n wa wb : Int) (h0 : 0 ≤ a) (h1 : a < two v) (g0 : 0 ≤ b) (g1 : b < two v) : ((a.toNat ||| b.toNat : Nat) : Int) % two v = madeE 7 v a b c n wa wb := by
 show _ = ((a.toNat ||| b.toNat : Nat) : Int)
 have : a.toNat ||| b.toNat < 2 ^ v.toNat := Nat.or_lt_two_pow (by rw [two_nat] at h1; omega) (by rw [two_nat] at g1; omega)
 exact emod_small (by omega) (by rw [two_nat]; omega)
theorem m8 (v a b c n wa wb : Int) (h0 : 0 ≤ a) (h1 : a < two v) (g0 : 0 ≤ b) (g1 : b < two v) : ((a.toNat ^^^ b.toNat : Nat) : Int) % two v = madeE 8 v a b c n wa wb := by
 show _ = ((a.toNat ^^^ b.toNat : Nat) : Int)
 have : a.toNat ^^^ b.toNat < 2 ^ v.toNat := Nat.xor_lt_two_pow (by rw [two_nat] at h1; omega) (by rw [two_nat] at g1; omega)
 exact emod_small (by omega) (by rw [two_nat]; omega)
theorem m10 (v a b c n wa wb : Int) : (a - b) % two v = madeE 10 v a b c n wa wb := by
 show _ = (a + two v - b) % two v
 have : a + two v - b = a - b + two v * 1 := by omega
 rw [this, Int.add_mul_emod_self_left]
theorem m12 (v a b c n wa wb : Int) (h0 : 0 ≤ a) (h1 : a < two v) (g0 : 0 ≤ b) : divE a b % two v = madeE 12 v a b c n wa wb := by
 show _ = if b = 0 then two v - 1 else a / b
 unfold divE
 by_cases hb : b = 0
 · rw [if_pos hb, if_pos hb]
   have : (-1 : Int) = (two v - 1) + two v * (-1) := by omega
   rw [this, Int.add_mul_emod_self_left, emod_small (by omega) (by omega)]
 · rw [if_neg hb, if_neg hb]
   have := Int.ediv_le_self b h0
   have := Int.ediv_nonneg h0 g0
   exact emod_small (by omega) (by omega)
theorem m13 (v a b c n wa wb : Int) (h0 : 0 ≤ a) (h1 : a < two v) (g0 : 0 ≤ b) (g1 : b < two v) : remE a b % two v = madeE 13 v a b c n wa wb := by
 show _ = if b = 0 then a else a % b
 unfold remE
 by_cases hb : b = 0
 · rw [if_pos hb]
   exact emod_small (by omega) (by omega)
 · rw [if_neg hb]
   have := Int.emod_lt_of_pos a (show 0 < b from by omega)
   have := Int.emod_nonneg a hb
   exact emod_small (by omega) (by omega)
theorem two_pos (v : Int) : 0 < two v := Int.pow_pos (by decide)
theorem m14 (v a b c n wa wb : Int) : shlE v a b % two v = madeE 14 v a b c n wa wb := by
 show _ = if v ≤ b then 0 else a * two b % two v
 unfold shlE
 by_cases hb : v ≤ b
 · rw [if_pos hb, if_pos hb]; rfl
 · rw [if_neg hb, if_neg hb]
theorem m15 (v a b c n wa wb : Int) (h0 : 0 ≤ a) (h1 : a < two v) : shrE v a b % two v = madeE 15 v a b c n wa wb := by
 show _ = if v ≤ b then 0 else a / two b
 unfold shrE
 by_cases hb : v ≤ b
 · rw [if_pos hb]; rfl
 · rw [if_neg hb]
   have := Int.ediv_le_self (two b) h0
   have := Int.ediv_nonneg h0 (Int.le_of_lt (two_pos b))
   exact emod_small (by omega) (by omega)
theorem m23 (v a b c n wa wb : Int) : sgn a wa % two v = madeE 23 v a b c n wa wb := by
 show _ = (sgn a wa + two v) % two v
 have : sgn a wa + two v = sgn a wa + two v * 1 := by omega
 rw [this, Int.add_mul_emod_self_left]
end Go.Proofs.YtjhkecnnhddhbaaGreatDoor.Ev
