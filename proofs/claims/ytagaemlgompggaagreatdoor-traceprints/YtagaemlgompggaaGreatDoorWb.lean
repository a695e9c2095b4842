/- Fit, and what it is held against: both return the same. -/
import Derived.Test.YtagaemlgompggaaGreatDoorWa
namespace Go.Proofs.YtagaemlgompggaaGreatDoor.Ev
open Go.RowKit
set_option maxRecDepth 100000

/-- Three widths, as a value. -/
abbrev arr3 (a b c : Int) : Value := .agg #[.int .i64 a, .int .i64 b, .int .i64 c]

def rngOk (t a b c : Int) : Bool :=
  (if 0 < t then btw a 1 8 else a == 0) && (if 1 < t then btw b 1 8 else b == 0) && (if 2 < t then btw c 1 8 else c == 0)

def metOk (o da db dc own n a b c : Int) : Bool :=
  askOk o own own a n && askOk da a own a n && askOk db b own a n && askOk dc c own a n

set_option maxHeartbeats 400000 in
theorem met_any (o da db dc own n a b c : Int) (w : World)
    (b1 : 0 ≤ own ∧ own ≤ 8) (b2 : 0 ≤ a ∧ a ≤ 8) (b3 : 0 ≤ b ∧ b ≤ 8) (b4 : 0 ≤ c ∧ c ≤ 8) :
    Calls Tryz.prog 121 #[dm o da db dc, .int .i64 own, .int .i64 n, arr3 a b c] w fun e w' => e = .returned (.bool (metOk o da db dc own n a b c)) ∧ w' = (((w.alloc (.cells #[.int .i64 o, .int .i64 da, .int .i64 db, .int .i64 dc] 162)).alloc (.cells #[.int .i64 own] 3)).alloc (.cells #[.int .i64 n] 3)).alloc (.cells #[.int .i64 a, .int .i64 b, .int .i64 c] 141) := by
  have hmf : ∀ (fn : Fn) (first cap : Array Value) (w : World), (Instr.makeFunc fn first cap).run Tryz.prog w = .ok (.func fn first cap) w := fun _ _ _ _ => rfl
  go_enter Tryz.func121, Tryz.ntmps121
  go_wp2_with (go_at_call 124; refine (meets_any _ _ own n a _ _ _ _ (by simp [go_sem]) (by simp [go_sem]) (by simp [go_sem]) (by omega) (by omega) (by omega)).mono ?_; rintro e w' ⟨rfl, rfl⟩)
  all_goals
    go_ret
    exact ⟨ret_bool (by unfold metOk; simp [*]), rfl⟩

set_option maxRecDepth 100000 in
set_option maxHeartbeats 1000000 in
theorem inRange_at (k a b c t : Int) (ht : takes k = t) (h4 : t = 0 ∨ t = 1 ∨ t = 2 ∨ t = 3) (w : World) :
    Calls Tryz.prog 120 #[.int .i64 k, arr3 a b c] w fun e w' => e = .returned (.bool (rngOk t a b c)) ∧ w' = w.alloc (.cells #[.int .i64 a, .int .i64 b, .int .i64 c] 141) := by
  have i0 : ∀ w : World, (Instr.index 141 (arr3 a b c) (.int .i64 0)).run Tryz.prog w = .ok (.int .i64 a) w := fun _ => by kernel_rfl
  have i1 : ∀ w : World, (Instr.index 141 (arr3 a b c) (.int .i64 1)).run Tryz.prog w = .ok (.int .i64 b) w := fun _ => by kernel_rfl
  have i2 : ∀ w : World, (Instr.index 141 (arr3 a b c) (.int .i64 2)).run Tryz.prog w = .ok (.int .i64 c) w := fun _ => by kernel_rfl
  rcases h4 with rfl | rfl | rfl | rfl
  all_goals
    have hw := words_any k
    rw [ht] at hw
    have hw' : Hid _ := hw
    clear hw ht
    go_enter Tryz.func120, Tryz.ntmps120
    go_wp2_with (go_at_call 110; refine (hw'.out _).mono ?_; rintro e w' ⟨rfl, rfl⟩)
    refine wp_loop_rounds 4 ?_
    rw [rounds_succ]
    go_wp2_with (go_at_call 94; refine (isWidth_any _ _).mono ?_; rintro e w' ⟨rfl, rfl⟩)
    all_goals try (rw [rounds_succ]; go_wp2_with (go_at_call 94; refine (isWidth_any _ _).mono ?_; rintro e w' ⟨rfl, rfl⟩))
    all_goals try (rw [rounds_succ]; go_wp2_with (go_at_call 94; refine (isWidth_any _ _).mono ?_; rintro e w' ⟨rfl, rfl⟩))
    all_goals try (rw [rounds_succ]; go_wp2_with (go_at_call 94; refine (isWidth_any _ _).mono ?_; rintro e w' ⟨rfl, rfl⟩))
    all_goals
      go_ret
      exact ⟨ret_bool (by unfold rngOk; simp_all), rfl⟩

theorem takes_four (k : Int) : takes k = 0 ∨ takes k = 1 ∨ takes k = 2 ∨ takes k = 3 := by
  unfold takes
  (repeat' split) <;> simp

theorem inRange_any (k a b c : Int) (w : World) :
    Calls Tryz.prog 120 #[.int .i64 k, arr3 a b c] w fun e w' => e = .returned (.bool (rngOk (takes k) a b c)) ∧ w' = w.alloc (.cells #[.int .i64 a, .int .i64 b, .int .i64 c] 141) :=
  inRange_at k a b c _ rfl (takes_four k) w

theorem bal {w w1 : World} (h : Below w.heap.size w w1) (o : Obj) : Below w.heap.size w (w1.alloc o) := h.alloc h.size o

end Go.Proofs.YtagaemlgompggaaGreatDoor.Ev
