/- Steps, unrolled: what makes clauses of each step. -/
import Derived.Test.YtjhkecnnhddhbaaGreatDoorKb
import Derived.Laws.EntriesVeiled
import Derived.Laws.ResultCell
import Derived.Laws.Rows
namespace Go.Proofs.YtjhkecnnhddhbaaGreatDoor
open Go.RowKit Go.Maps Go.WideMaps
set_option maxRecDepth 100000
set_option autoImplicit false

/-- An unroller in memory, made behind a world. -/
structure Un (w0 w : World) (M : Nat) (v : Value) (vars : Int) (rs : List Row) (C : Ci) (last : Nat) : Prop where
  cm : Cm w w0.heap.size M v vars rs
  un : UnC w M C last
  bl : Below w0.heap.size w0 w
theorem Un.later {w0 w w1 : World} {M : Nat} {v : Value} {vars : Int} {rs : List Row} {C : Ci} {last : Nat} (h : Un w0 w M v vars rs C last) (hb : Below w.heap.size w w1) : Un w0 w1 M v vars rs C last :=
  ⟨h.cm.below hb, h.un.later hb, h.bl.trans (hb.mono h.bl.size)⟩
theorem Un.next {w0 w w1 : World} {M : Nat} {v v1 : Value} {vars vars1 : Int} {rs rs1 : List Row} {C : Ci} {last : Nat} (h : Un w0 w M v vars rs C last) (hc : Cm w1 w0.heap.size M v1 vars1 rs1) (hb : Below w0.heap.size w w1) (hk : Kp M w v w1 v1) : Un w0 w1 M v1 vars1 rs1 C last :=
  ⟨hc, h.un.kp h.cm.nv hk, h.bl.trans hb⟩
/-- Boxes that are not the maker's. -/
def Bxs (w : World) (v : Value) (M : Nat) (L : List (Addr × Value)) : Prop := ∀ q x, (q, x) ∈ L → w.cell? q = some x ∧ q.block ≠ M ∧ v.ownBlock ≠ some q.block
theorem Bxs.kp {w w1 : World} {v v1 : Value} {M : Nat} {L : List (Addr × Value)} (h : Bxs w v M L) (hk : Kp M w v w1 v1) : Bxs w1 v1 M L := fun q x hq => by
  obtain ⟨h1, h2, h3⟩ := h q x hq
  obtain ⟨h4, h5⟩ := hk.keep q x h1 (fun e => h2 (by rw [e])) (fun e => h2 (by rw [e])) h3
  exact ⟨h4, h2, h5⟩
theorem Bxs.later {w w1 : World} {v : Value} {M : Nat} {L : List (Addr × Value)} (h : Bxs w v M L) (hb : Below w.heap.size w w1) : Bxs w1 v M L := fun q x hq => ⟨cell_later hb (h q x hq).1, (h q x hq).2⟩
/-- What making some clauses leaves. -/
def MkOut (w0 w : World) (M : Nat) (v : Value) (vars : Int) (rs : List Row) (L : List (List Int)) (C : Ci) (last : Nat) (e : Ending) (w' : World) : Prop :=
  e = .returned (.tuple #[]) ∧ ∃ v' rs', numsOf rs' = numsOf rs ++ L ∧ Un w0 w' M v' vars rs' C last ∧ Kp M w v w' v'
/-- A part: how many variables and clauses, who makes them, what that one reads, what is made. -/
structure Prt where
  vs : Int
  cs : Int
  fn : FuncId
  caps : Array Value
  bx : List (Addr × Value)
  L : List (List Int)
  need : Option Int
abbrev Prt.v (p : Prt) : Value := .agg #[.int .i64 p.vs, .int .i64 p.cs, .func (.func p.fn) #[] p.caps]
def Makes (w0 : World) (M : Nat) (C : Ci) (last : Nat) (p : Prt) : Prop := ∀ w v vars rs, Un w0 w M v vars rs C last → Bxs w v M p.bx → rs.length + p.L.length ≤ 800000 → 0 ≤ vars → vars + p.vs ≤ 200000 → (∀ x, p.need = some x → vars = x) → Calls Tryz.prog p.fn p.caps w (MkOut w0 w M v (vars + p.vs) rs p.L C last)
/-- What is added at the first steps. -/
def stepsL (f : Nat → List (List Int)) (k : Nat) : List (List Int) := (List.range k).flatMap f
theorem stepsL_succ (f : Nat → List (List Int)) (k : Nat) : stepsL f (k + 1) = stepsL f k ++ f k := by simp [stepsL, List.range_succ]
theorem stepsL_mono (f : Nat → List (List Int)) {k n : Nat} (h : k ≤ n) : (stepsL f k).length ≤ (stepsL f n).length := by
  induction n with
  | zero => obtain rfl : k = 0 := by omega
            exact Nat.le_refl _
  | succ n ih =>
    by_cases e : k = n + 1
    · subst e; exact Nat.le_refl _
    · have := ih (by omega)
      rw [stepsL_succ, List.length_append]
      omega
theorem numsOf_lenE {rs : List Row} {L : List (List Int)} (h : numsOf rs = L) : rs.length = L.length := by rw [← h, numsOf_len]

set_option maxHeartbeats 4000000 in
theorem eachMake_any (w0 : World) (M : Nat) (C : Ci) (last : Nat) (fn : FuncId) (c1 c2 : Value) (bx : List (Addr × Value)) (f : Nat → List (List Int)) (dv : Int) (hdv : 0 ≤ dv) (S A : Nat) (n : Nat) (hn : n ≤ 41) (vs cs : Int) (hvs : vs = n * dv)
    (hent : ∀ (args : Array Value) (w : World), (callFunc fn args).run Tryz.prog w = .ok (.enter fn args) w)
    (hst : ∀ t, t < n → ∀ w v vars rs, Un w0 w M v vars rs C last → Bxs w v M bx → rs.length + (f t).length ≤ 800000 → 0 ≤ vars → vars + dv ≤ 200000 → Calls Tryz.prog fn #[.int .i64 t, c1, c2] w (MkOut w0 w M v (vars + dv) rs (f t) C last)) :
    Makes w0 M C last ⟨vs, cs, 65, #[.pointer (some ⟨S, 0, none⟩), .pointer (some ⟨A, 0, none⟩)], (⟨S, 0, none⟩, .int .i64 n) :: (⟨A, 0, none⟩, .func (.func fn) #[] #[c1, c2]) :: bx, stepsL f n, none⟩ := by
  subst hvs
  intro w v vars rs hU hB hl hv0 hv _
  simp only at hB hl hv ⊢
  have s0 := (hB _ _ (List.mem_cons_self ..)).1
  have HB := hide hB
  have HU := hide hU
  have HST := hide hst
  have HL : Hid (∀ k, k ≤ n → (stepsL f k).length ≤ (stepsL f n).length) := fun k hk => stepsL_mono f hk
  clear hB hU hst
  generalize hZ : stepsL f n = Z at *
  go_enter Tryz.func65, Tryz.ntmps65
  go_wp2
  go_loopw [4] (fun i wr => ∃ k : Nat, k ≤ n ∧ i = .int .i64 k ∧ Hid (∃ v' rs', numsOf rs' = numsOf rs ++ stepsL f k ∧ Un w0 wr M v' (vars + k * dv) rs' C last ∧ Kp M w v wr v')) (fun i _ => n - (intOf i).toNat)
  case atStart => exact ⟨0, Nat.zero_le _, rfl, v, rs, by simp [stepsL], by simpa using HU.out, Kp.refl _ _ _⟩
  case round =>
    obtain ⟨k, hk, rfl, HR⟩ := hrel
    obtain ⟨v1, rs1, hn1, hU1, hk1⟩ := HR.out
    by_cases hlt : k < n
    · have hki : (k : Int) < (n : Int) := by omega
      have hB1 := HB.out.kp hk1
      have a1 := (hB1 _ _ (List.mem_cons_of_mem _ (List.mem_cons_self ..))).1
      have hlen1 := numsOf_lenE hn1
      have hle := HL.out (k + 1) (by omega)
      rw [stepsL_succ, List.length_append] at hle
      rw [List.length_append, numsOf_len] at hlen1
      have hm1 : 0 ≤ (k : Int) * dv := Int.mul_nonneg (by omega) hdv
      have hm2 : ((k : Int) + 1) * dv ≤ (n : Int) * dv := Int.mul_le_mul_of_nonneg_right (by omega) hdv
      have hm3 : ((k : Int) + 1) * dv = k * dv + dv := by rw [Int.add_mul]; omega
      have HC := hide (HST.out k hlt wr v1 (vars + k * dv) rs1 hU1 (fun q x hq => hB1 q x (List.mem_cons_of_mem _ (List.mem_cons_of_mem _ hq))) (by omega) (by omega) (by omega))
      have HN1 := hide hn1
      have HK1 := hide hk1
      have HV : Hid (vars + (k : Int) * dv + dv = vars + ((k + 1 : Nat) : Int) * dv) := by unfold Hid; rw [Int.natCast_add, Int.natCast_one, hm3]; omega
      clear hn1 hU1 hk1 hB1 hlen1 hle hm1 hm2 hm3 HR
      go_wp2_with fail
      refine HC.out.mono ?_
      rintro e w2 ⟨rfl, v2, rs2, hn2, hU2, hk2⟩
      rw [HV.out] at hU2
      have HR2 := hide (show ∃ v' rs', numsOf rs' = numsOf rs ++ stepsL f (k + 1) ∧ Un w0 w2 M v' (vars + ((k + 1 : Nat) : Int) * dv) rs' C last ∧ Kp M w v w2 v' from ⟨v2, rs2, by rw [hn2, HN1.out, stepsL_succ, List.append_assoc], hU2, HK1.out.trans hk2⟩)
      clear hn2 hU2 hk2 HV HC
      go_wp2
      go_roundw
      case rel => exact ⟨k + 1, by omega, by go_num, HR2⟩
      case measure => simp [intOf]; omega
    · obtain rfl : k = n := by omega
      have HE := hide (show MkOut w0 w M v (vars + k * dv) rs Z C last (.returned (.tuple #[])) wr from ⟨rfl, v1, rs1, by rw [hn1, hZ], hU1, hk1⟩)
      clear hn1 hU1 hk1
      go_wp2
      go_end0
      exact HE.out

theorem alloc_at {w : World} {o : Obj} {n : Nat} (h : w.heap.size = n) : (w.alloc o).heap[n]? = some o := by rw [← h]; exact (MapKept.heap_alloc w o).1
set_option maxHeartbeats 4000000 in
theorem eachStep_any (n : Nat) (hn : n ≤ 41) (c : Nat) (hc : c ≤ 100000000000) (fn : FuncId) (c1 c2 : Value) (w : World) :
    Calls Tryz.prog 34 #[.int .i64 n, .int .i64 c, .func (.func fn) #[] #[c1, c2]] w fun e w' => e = .returned (.agg #[.int .i64 0, .int .i64 (n * c : Nat), .func (.func 65) #[] #[.pointer (some ⟨w.heap.size, 0, none⟩), .pointer (some ⟨w.heap.size + 1, 0, none⟩)]]) ∧
      w'.cell? ⟨w.heap.size, 0, none⟩ = some (.int .i64 n) ∧ w'.cell? ⟨w.heap.size + 1, 0, none⟩ = some (.func (.func fn) #[] #[c1, c2]) ∧ Below w.heap.size w w' := by
  have hm : (n : Int) * (c : Int) ≤ 41 * 100000000000 := Int.mul_le_mul (by omega) (by omega) (by omega) (by omega)
  have hm0 : 0 ≤ (n : Int) * (c : Int) := Int.mul_nonneg (by omega) (by omega)
  have ww := wrap_id (x := (n : Int) * (c : Int)) (by omega) (by omega)
  have HE : Hid (((n * c : Nat) : Int) = (n : Int) * (c : Int)) := Int.natCast_mul _ _
  clear hm hm0
  generalize ((n * c : Nat) : Int) = Z at *
  go_enter Tryz.func34, Tryz.ntmps34
  go_wp2
  refine bodyPost_ret (results_cell_row rfl _ _ (w.heap.size + 1 + 1) 45 _ _ _ rfl (alloc_at (by simp)) Tryz.underlying45 rfl (by kernel_rfl)) rfl ?_
  refine ⟨by rw [HE.out], by simp [go_sem], by simp [go_sem], bal (bal (bal (Below.refl _ _) _) _) _⟩
end Go.Proofs.YtjhkecnnhddhbaaGreatDoor
