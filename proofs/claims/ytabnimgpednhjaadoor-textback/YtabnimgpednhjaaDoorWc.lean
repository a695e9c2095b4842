/- Fit, and what it is held against: both return the same. -/
import Derived.Test.YtabnimgpednhjaaDoorWbM
namespace Go.Proofs.YtabnimgpednhjaaDoor.Ev
open Go.RowKit
set_option maxRecDepth 100000

def metS (s own n a b c : Int) : Bool :=
  if s = 1 then metOk 0 2 0 0 own n a b c else if s = 2 then metOk 0 2 2 0 own n a b c else if s = 3 then metOk 1 0 3 0 own n a b c
  else if s = 4 then metOk 0 1 2 2 own n a b c else if s = 5 then metOk 0 0 4 0 own n a b c else if s = 6 then metOk 0 5 0 0 own n a b c else metOk 0 6 0 0 own n a b c

/-- What Fit returns. -/
def fitE (k own n a b c : Int) : Int :=
  if shape k = 0 then 7 else if btw own 1 8 = false then 3 else if rngOk (takes k) a b c = false then 3
  else if k ≠ 21 ∧ n ≠ 0 then 1 else if metS (shape k) own n a b c then 0 else 1

theorem run_lk (w : World) (k : Int) (r : Option (Nat × Value)) (v : Value) (ok : Bool) 
    (h : Instr.findNow (.int .i64) (.int .i64 k) dmMap.toList 0 = some r) (h2 : (r.map (·.2)).getD (dm 0 0 0 0) = v) (h3 : r.isSome = ok) :
    (Instr.lookup 124 (.map (some w.heap.size)) (.int .i64 k) true).run Tryd.prog (w.alloc (.map dmMap 7)) = .ok (.tuple #[v, .bool ok]) (w.alloc (.map dmMap 7)) := by
  have hb : (w.alloc (.map dmMap 7)).heap[w.heap.size]? = some (.map dmMap 7) := (MapKept.heap_alloc w _).1
  have hk : (Instr.checkKey dmMap.isEmpty 10000 126 (.int .i64 k)).run Tryd.prog (w.alloc (.map dmMap 7)) = .ok () (w.alloc (.map dmMap 7)) := checkKey_int Tryd.underlying126 dmMap.isEmpty 9999 (.int .i64 k) (w.alloc (.map dmMap 7))
  have hz : (zeroValue 122).run Tryd.prog (w.alloc (.map dmMap 7)) = .ok (dm 0 0 0 0) (w.alloc (.map dmMap 7)) := by kernel_rfl
  unfold Instr.lookup
  simp only [Sem.run_bind, run_underlying Tryd.underlying124, MapKept.run_getObj_map hb, Result.andThen]
  subst h2 h3
  cases r with
  | none => simp [Instr.findKey, run_underlying Tryd.underlying126, h, hz, hk]
  | some p => simp [Instr.findKey, run_underlying Tryd.underlying126, h, hk]


theorem shape_eight (k : Int) : shape k = 0 ∨ shape k = 1 ∨ shape k = 2 ∨ shape k = 3 ∨ shape k = 4 ∨ shape k = 5 ∨ shape k = 6 ∨ shape k = 7 := by
  unfold shape
  (repeat' split) <;> simp

/-- Fit, with what the map has at the kind's shape. -/
theorem fit_none (k own n a b c : Int) (w : World) (hs : shape k = 0) :
    Calls Tryd.prog 58 #[.int .i64 k, .int .i64 own, .int .i64 n, arr3 a b c] w fun e w' => e = .returned (.int .i64 (fitE k own n a b c)) ∧ Below w.heap.size w w' := by
  have hl := run_lk (w.alloc (.cells #[.int .i64 a, .int .i64 b, .int .i64 c] 108)) 0 none (dm 0 0 0 0) false (by rfl) rfl rfl
  rw [show (w.alloc (.cells #[.int .i64 a, .int .i64 b, .int .i64 c] 108)).heap.size = w.heap.size + 1 from by simp] at hl
  have hfin : fitE k own n a b c = 7 := by unfold fitE; rw [if_pos hs]
  have Hfin : Hid _ := hfin
  have hsh := shapeOf_any k
  rw [hs] at hsh
  have Hsh : Hid _ := hsh
  clear hfin hsh hs
  go_enter Tryd.func58, Tryd.ntmps58
  go_wp2_with (first | (go_at_call 71; refine (demands_any _).mono ?_; rintro e w' ⟨rfl, rfl⟩) | (go_at_call 72; refine (Hsh.out _).mono ?_; rintro e w' ⟨rfl, rfl⟩))
  go_ret
  exact ⟨ret_int Hfin.out.symm, bal (bal (bal (Below.refl _ _) _) _) _⟩


def fitR (k own n a b c : Int) (m : Bool) : Int :=
  if btw own 1 8 = false then 3 else if rngOk (takes k) a b c = false then 3
  else if k ≠ 21 ∧ n ≠ 0 then 1 else if m then 0 else 1

theorem btw_bd {x : Int} (h : btw x 1 8 = true) : 0 ≤ x ∧ x ≤ 8 := by rw [btw_true] at h; omega

theorem rng_bd {t a b c : Int} (h : rngOk t a b c = true) : (0 ≤ a ∧ a ≤ 8) ∧ (0 ≤ b ∧ b ≤ 8) ∧ (0 ≤ c ∧ c ≤ 8) := by
  unfold rngOk at h
  simp only [Bool.and_eq_true] at h
  obtain ⟨⟨h1, h2⟩, h3⟩ := h
  refine ⟨?_, ?_, ?_⟩
  · split at h1
    · exact btw_bd h1
    · simp at h1; omega
  · split at h2
    · exact btw_bd h2
    · simp at h2; omega
  · split at h3
    · exact btw_bd h3
    · simp at h3; omega

set_option maxRecDepth 100000 in
set_option maxHeartbeats 1000000 in
theorem fit_some (k own n a b c s o da db dc : Int) (i : Nat) (w : World) (hs : shape k = s) 
    (hf : Instr.findNow (.int .i64) (.int .i64 s) dmMap.toList 0 = some (some (i, dm o da db dc))) :
    Calls Tryd.prog 58 #[.int .i64 k, .int .i64 own, .int .i64 n, arr3 a b c] w fun e w' => e = .returned (.int .i64 (fitR k own n a b c (metOk o da db dc own n a b c))) ∧ Below w.heap.size w w' := by
  have hl := run_lk (w.alloc (.cells #[.int .i64 a, .int .i64 b, .int .i64 c] 108)) s (some (i, dm o da db dc)) (dm o da db dc) true hf rfl rfl
  rw [show (w.alloc (.cells #[.int .i64 a, .int .i64 b, .int .i64 c] 108)).heap.size = w.heap.size + 1 from by simp] at hl
  have hsh := shapeOf_any k
  rw [hs] at hsh
  have Hsh : Hid _ := hsh
  clear hsh hs hf
  by_cases hb : btw own 1 8 = true
  · have hbd := btw_bd hb
    by_cases hr : rngOk (takes k) a b c = true
    · obtain ⟨ba, bb, bc⟩ := rng_bd hr
      by_cases hk : (k != 21) = true
      · by_cases hn : (n != 0) = true
        · have Hfin : Hid (fitR k own n a b c (metOk o da db dc own n a b c) = 1) := by
            unfold fitR; simp only [bne_iff_ne] at hk hn; simp [hb, hr, hk, hn, Hid]
          go_enter Tryd.func58, Tryd.ntmps58
          go_wp2_with (first | (go_at_call 71; refine (demands_any _).mono ?_; rintro e w' ⟨rfl, rfl⟩) | (go_at_call 72; refine (Hsh.out _).mono ?_; rintro e w' ⟨rfl, rfl⟩) | (go_at_call 34; refine (isWidth_any _ _).mono ?_; rintro e w' ⟨rfl, rfl⟩) | (go_at_call 73; refine (inRange_any _ _ _ _ _).mono ?_; rintro e w' ⟨rfl, rfl⟩))
          go_ret
          exact ⟨ret_int Hfin.out.symm, bal (bal (bal (bal (Below.refl _ _) _) _) _) _⟩
        · have hn' : (n != 0) = false := by simpa using hn
          have Hfin : Hid (fitR k own n a b c (metOk o da db dc own n a b c) = if metOk o da db dc own n a b c then 0 else 1) := by
            unfold fitR; have : n = 0 := by simpa using hn'
            simp [hb, hr, this, Hid]
          clear hn
          generalize hm : metOk o da db dc own n a b c = m at *
          have hmet := fun w => met_any o da db dc own n a b c w hbd ba bb bc
          rw [hm] at hmet
          have Hmet : Hid _ := hmet
          clear hmet hm
          cases m
          all_goals
            go_enter Tryd.func58, Tryd.ntmps58
            go_wp2_with (first | (go_at_call 71; refine (demands_any _).mono ?_; rintro e w' ⟨rfl, rfl⟩) | (go_at_call 72; refine (Hsh.out _).mono ?_; rintro e w' ⟨rfl, rfl⟩) | (go_at_call 34; refine (isWidth_any _ _).mono ?_; rintro e w' ⟨rfl, rfl⟩) | (go_at_call 73; refine (inRange_any _ _ _ _ _).mono ?_; rintro e w' ⟨rfl, rfl⟩) | (go_at_call 74; refine (Hmet.out _).mono ?_; rintro e w' ⟨rfl, rfl⟩))
            go_ret
            exact ⟨ret_int (by rw [Hfin.out]; simp), by repeat (first | exact Below.refl _ _ | refine bal ?_ _)⟩
      · have hk' : (k != 21) = false := by simpa using hk
        have Hfin : Hid (fitR k own n a b c (metOk o da db dc own n a b c) = if metOk o da db dc own n a b c then 0 else 1) := by
          unfold fitR; have : k = 21 := by simpa using hk'
          subst this; simp [hb, hr, Hid]
        clear hk
        generalize hm : metOk o da db dc own n a b c = m at *
        have hmet := fun w => met_any o da db dc own n a b c w hbd ba bb bc
        rw [hm] at hmet
        have Hmet : Hid _ := hmet
        clear hmet hm
        cases m
        all_goals
          go_enter Tryd.func58, Tryd.ntmps58
          go_wp2_with (first | (go_at_call 71; refine (demands_any _).mono ?_; rintro e w' ⟨rfl, rfl⟩) | (go_at_call 72; refine (Hsh.out _).mono ?_; rintro e w' ⟨rfl, rfl⟩) | (go_at_call 34; refine (isWidth_any _ _).mono ?_; rintro e w' ⟨rfl, rfl⟩) | (go_at_call 73; refine (inRange_any _ _ _ _ _).mono ?_; rintro e w' ⟨rfl, rfl⟩) | (go_at_call 74; refine (Hmet.out _).mono ?_; rintro e w' ⟨rfl, rfl⟩))
          go_ret
          exact ⟨ret_int (by rw [Hfin.out]; simp), by repeat (first | exact Below.refl _ _ | refine bal ?_ _)⟩
    · have hr' : rngOk (takes k) a b c = false := by simpa using hr
      have Hfin : Hid (fitR k own n a b c (metOk o da db dc own n a b c) = 3) := by
        unfold fitR; simp [hb, hr', Hid]
      clear hr
      go_enter Tryd.func58, Tryd.ntmps58
      go_wp2_with (first | (go_at_call 71; refine (demands_any _).mono ?_; rintro e w' ⟨rfl, rfl⟩) | (go_at_call 72; refine (Hsh.out _).mono ?_; rintro e w' ⟨rfl, rfl⟩) | (go_at_call 34; refine (isWidth_any _ _).mono ?_; rintro e w' ⟨rfl, rfl⟩) | (go_at_call 73; refine (inRange_any _ _ _ _ _).mono ?_; rintro e w' ⟨rfl, rfl⟩))
      go_ret
      exact ⟨ret_int Hfin.out.symm, by repeat (first | exact Below.refl _ _ | refine bal ?_ _)⟩
  · have hb' : btw own 1 8 = false := by simpa using hb
    have Hfin : Hid (fitR k own n a b c (metOk o da db dc own n a b c) = 3) := by
      unfold fitR; simp [hb', Hid]
    clear hb
    go_enter Tryd.func58, Tryd.ntmps58
    go_wp2_with (first | (go_at_call 71; refine (demands_any _).mono ?_; rintro e w' ⟨rfl, rfl⟩) | (go_at_call 72; refine (Hsh.out _).mono ?_; rintro e w' ⟨rfl, rfl⟩) | (go_at_call 34; refine (isWidth_any _ _).mono ?_; rintro e w' ⟨rfl, rfl⟩) | (go_at_call 73; refine (inRange_any _ _ _ _ _).mono ?_; rintro e w' ⟨rfl, rfl⟩))
    go_ret
    exact ⟨ret_int Hfin.out.symm, by repeat (first | exact Below.refl _ _ | refine bal ?_ _)⟩

theorem fitE_some (k own n a b c : Int) (h : shape k ≠ 0) : fitE k own n a b c = fitR k own n a b c (metS (shape k) own n a b c) := by
  unfold fitE fitR
  rw [if_neg h]

theorem fit_any (k own n a b c : Int) (w : World) :
    Calls Tryd.prog 58 #[.int .i64 k, .int .i64 own, .int .i64 n, arr3 a b c] w fun e w' => e = .returned (.int .i64 (fitE k own n a b c)) ∧ Below w.heap.size w w' := by
  rcases shape_eight k with h | h | h | h | h | h | h | h
  · exact fit_none k own n a b c w h
  · rw [fitE_some k own n a b c (by omega), h]; exact fit_some k own n a b c 1 _ _ _ _ 0 w h rfl
  · rw [fitE_some k own n a b c (by omega), h]; exact fit_some k own n a b c 2 _ _ _ _ 1 w h rfl
  · rw [fitE_some k own n a b c (by omega), h]; exact fit_some k own n a b c 3 _ _ _ _ 2 w h rfl
  · rw [fitE_some k own n a b c (by omega), h]; exact fit_some k own n a b c 4 _ _ _ _ 3 w h rfl
  · rw [fitE_some k own n a b c (by omega), h]; exact fit_some k own n a b c 5 _ _ _ _ 4 w h rfl
  · rw [fitE_some k own n a b c (by omega), h]; exact fit_some k own n a b c 6 _ _ _ _ 5 w h rfl
  · rw [fitE_some k own n a b c (by omega), h]; exact fit_some k own n a b c 7 _ _ _ _ 6 w h rfl

end Go.Proofs.YtabnimgpednhjaaDoor.Ev
