/- The regions of a round of leave that draw their order: the walks. -/
import Derived.Test.YtfobcnhibhbbaaaYrM
namespace Go.Proofs.Ytfobcnhibhbbaaa.Xp
open Go.RowKit Go.Maps Go.WideMaps Go.WideShapes Go.Shelf
set_option maxRecDepth 100000

set_option maxHeartbeats 4000000 in
theorem reg4 {l n : Nat} {Q : Exit → Act → World → Prop} (hQo : ¬ LetsOut Q) (hQp : ∀ c a w, ¬ Q (.panic c) a w) (t0 t1 t4 t5 t6 t7 t8 t9 t10 t11 t12 t13 t14 t15 t16 t17 t18 t19 t20 t21 t22 t23 t24 t25 t26 t27 t28 t29 t30 t31 t32 t33 t34 t35 t36 t37 t38 t39 t40 t41 t42 t43 t44 t45 t46 t47 t48 t49 t50 t51 t52 t53 t54 t55 t56 t57 t58 t59 t60 t61 t62 t63 t64 t65 t66 t67 t68 t69 t70 t71 t72 : Value) (b2 b3 B N : Nat) (v3 : Value) (a0 a1 a2 a3 a4 : Option Addr) (l0 l1 l2 l3 l4 c0 c1 c2 c3 c4 : Nat) (p3 : Option Addr) (n3 k3 : Nat) (hv3 : v3 = .slice p3 n3 k3) (W : World)
    (y0 : W.cell? ⟨b2, 0, none⟩ = some (.pointer (some ⟨B, 0, none⟩))) (y1 : W.cell? ⟨b3, 0, none⟩ = some v3) (m0 : W.cell? ⟨B, 0, none⟩ = some (.slice a0 l0 c0)) (m1 : W.cell? ⟨B, 1, none⟩ = some (.slice a1 l1 c1)) (m2 : W.cell? ⟨B, 2, none⟩ = some (.slice a2 l2 c2)) (m3 : W.cell? ⟨B, 3, none⟩ = some (.slice a3 l3 c3)) (m4 : W.cell? ⟨B, 4, none⟩ = some (.slice a4 l4 c4))
    (R : Nat → World → Prop) (hR : ∀ g w', R g w' → Below W.drew.heap.size W.drew w')
    (hC : Calls Try.prog 61 #[.agg #[.slice a0 l0 c0, .slice a1 l1 c1, .slice a2 l2 c2, .slice a3 l3 c3, .slice a4 l4 c4], v3, t5] W.drew fun e w' => ∃ g, e = .returned (.slice (some ⟨g, 0, none⟩) N N) ∧ R g w')
    (hQ : ∀ g w', R g w' → Q .normal { tmps := #[t0, t1, .pointer (some ⟨b2, 0, none⟩), .pointer (some ⟨b3, 0, none⟩), t4, t5, .slice (some ⟨g, 0, none⟩) N N, t7, t8, t9, t10, t11, t12, t13, t14, t15, t16, t17, t18, t19, t20, t21, .pointer (some ⟨B, 0, none⟩), .pointer (some ⟨B, 0, none⟩), .pointer (some ⟨B, 0, none⟩), .agg #[.slice a0 l0 c0, .slice a1 l1 c1, .slice a2 l2 c2, .slice a3 l3 c3, .slice a4 l4 c4], v3, t5, .slice (some ⟨g, 0, none⟩) N N, t29, t30, t31, t32, t33, t34, t35, t36, t37, t38, t39, t40, t41, t42, t43, t44, t45, t46, t47, t48, t49, t50, t51, t52, t53, t54, t55, t56, t57, t58, t59, t60, t61, t62, t63, t64, t65, t66, t67, t68, t69, t70, t71, t72], defers := [] } w') :
    (Code.region 4 #[{ dst := some 22, op := Go.Op.load 99 (Go.Operand.tmp 2), type := 99, pos := "explorer.go:57", after := #[], guard := none }, { dst := some 23, op := Go.Op.nilCheck (Go.Operand.tmp 22), type := 0, pos := "explorer.go:57", after := #[{ on := 0, ground := Go.Ground.data }], guard := none }, { dst := some 24, op := Go.Op.fieldAddr 49 (Go.Operand.tmp 23) 0, type := 0, pos := "explorer.go:57", after := #[{ on := 1, ground := Go.Ground.data }], guard := none }, { dst := some 25, op := Go.Op.load 26 (Go.Operand.tmp 24), type := 26, pos := "explorer.go:57", after := #[{ on := 2, ground := Go.Ground.data }], guard := none }, { dst := some 26, op := Go.Op.load 24 (Go.Operand.tmp 3), type := 24, pos := "explorer.go:57", after := #[], guard := none }, { dst := some 27, op := Go.Op.move (Go.Operand.tmp 5), type := 24, pos := "explorer.go:57", after := #[], guard := none }, { dst := some 28, op := Go.Op.call { callee := Go.Callee.value (Go.Operand.func 61), args := #[Go.Operand.tmp 25, Go.Operand.tmp 26, Go.Operand.tmp 27], argTypes := #[26, 24, 24] }, type := 24, pos := "explorer.go:57", after := #[{ on := 3, ground := Go.Ground.data }, { on := 4, ground := Go.Ground.data }, { on := 5, ground := Go.Ground.data }], guard := none }, { dst := some 6, op := Go.Op.assign (Go.Operand.tmp 28), type := 24, pos := "explorer.go:57", after := #[{ on := 6, ground := Go.Ground.data }, { on := 6, ground := Go.Ground.chain }, { on := 0, ground := Go.Ground.phase }, { on := 1, ground := Go.Ground.phase }, { on := 2, ground := Go.Ground.phase }, { on := 3, ground := Go.Ground.phase }, { on := 4, ground := Go.Ground.phase }, { on := 5, ground := Go.Ground.phase }, { on := 6, ground := Go.Ground.phase }], guard := none }] true).wpIn (Fence.wide.inRound l) n Try.prog Q { tmps := #[t0, t1, .pointer (some ⟨b2, 0, none⟩), .pointer (some ⟨b3, 0, none⟩), t4, t5, t6, t7, t8, t9, t10, t11, t12, t13, t14, t15, t16, t17, t18, t19, t20, t21, t22, t23, t24, t25, t26, t27, t28, t29, t30, t31, t32, t33, t34, t35, t36, t37, t38, t39, t40, t41, t42, t43, t44, t45, t46, t47, t48, t49, t50, t51, t52, t53, t54, t55, t56, t57, t58, t59, t60, t61, t62, t63, t64, t65, t66, t67, t68, t69, t70, t71, t72], defers := [] } W := by
  have HC := hide hC
  have HR := hide hR
  have HQ := hide hQ
  have HQO := hide hQo
  subst hv3
  clear hC hR hQ hQo
  refine wpIn_round_held (S := fun w' => w'.cell? ⟨b2, 0, none⟩ = some (.pointer (some ⟨B, 0, none⟩)) ∧ w'.cell? ⟨b3, 0, none⟩ = some (.slice p3 n3 k3) ∧ w'.cell? ⟨B, 0, none⟩ = some (.slice a0 l0 c0) ∧ w'.cell? ⟨B, 1, none⟩ = some (.slice a1 l1 c1) ∧ w'.cell? ⟨B, 2, none⟩ = some (.slice a2 l2 c2) ∧ w'.cell? ⟨B, 3, none⟩ = some (.slice a3 l3 c3) ∧ w'.cell? ⟨B, 4, none⟩ = some (.slice a4 l4 c4)) (by kernel_rfl) HQO.out (by kernel_rfl) ⟨y0, y1, m0, m1, m2, m3, m4⟩ (fun hHeld => ?_)
  clear HQO
  refine wpAnyH_take (i := 0) (oi := { dst := some 22, op := Go.Op.load 99 (Go.Operand.tmp 2), type := 99, pos := "explorer.go:57", after := #[], guard := none }) (v := ?v1) rfl (by kernel_rfl) (by kernel_rfl) (by kernel_rfl) (fun _ _ _ h => absurd h (hQp _ _ _)) (Or.inl ⟨by rfl, ?hy1⟩) (by assumption) ?rest1
  case hy1 => (intro w hSw; (try dsimp only at hSw); go_simp; (try with_reducible rfl))
  simp only [Act.put, List.setIfInBounds_toArray, List.set_cons_zero, List.set_cons_succ]
  refine wpAnyH_take (i := 1) (oi := { dst := some 23, op := Go.Op.nilCheck (Go.Operand.tmp 22), type := 0, pos := "explorer.go:57", after := #[{ on := 0, ground := Go.Ground.data }], guard := none }) (v := ?v2) rfl (by kernel_rfl) (by kernel_rfl) (by kernel_rfl) (fun _ _ _ h => absurd h (hQp _ _ _)) (Or.inl ⟨by rfl, ?hy2⟩) (by assumption) ?rest2
  case hy2 => (intro w hSw; (try dsimp only at hSw); go_simp; (try with_reducible rfl))
  simp only [Act.put, List.setIfInBounds_toArray, List.set_cons_zero, List.set_cons_succ]
  refine wpAnyH_take (i := 2) (oi := { dst := some 24, op := Go.Op.fieldAddr 49 (Go.Operand.tmp 23) 0, type := 0, pos := "explorer.go:57", after := #[{ on := 1, ground := Go.Ground.data }], guard := none }) (v := ?v3) rfl (by kernel_rfl) (by kernel_rfl) (by kernel_rfl) (fun _ _ _ h => absurd h (hQp _ _ _)) (Or.inl ⟨by rfl, ?hy3⟩) (by assumption) ?rest3
  case hy3 => (intro w hSw; (try dsimp only at hSw); go_simp; (try with_reducible rfl))
  simp only [Act.put, List.setIfInBounds_toArray, List.set_cons_zero, List.set_cons_succ]
  refine wpAnyH_take (i := 3) (oi := { dst := some 25, op := Go.Op.load 26 (Go.Operand.tmp 24), type := 26, pos := "explorer.go:57", after := #[{ on := 2, ground := Go.Ground.data }], guard := none }) (v := ?v4) rfl (by kernel_rfl) (by kernel_rfl) (by kernel_rfl) (fun _ _ _ h => absurd h (hQp _ _ _)) (Or.inl ⟨by rfl, ?hy4⟩) (by assumption) ?rest4
  case hy4 => (intro w hSw; (try dsimp only at hSw); go_simp; (try with_reducible rfl))
  simp only [Act.put, List.setIfInBounds_toArray, List.set_cons_zero, List.set_cons_succ]
  refine wpAnyH_take (i := 4) (oi := { dst := some 26, op := Go.Op.load 24 (Go.Operand.tmp 3), type := 24, pos := "explorer.go:57", after := #[], guard := none }) (v := ?v5) rfl (by kernel_rfl) (by kernel_rfl) (by kernel_rfl) (fun _ _ _ h => absurd h (hQp _ _ _)) (Or.inl ⟨by rfl, ?hy5⟩) (by assumption) ?rest5
  case hy5 => (intro w hSw; (try dsimp only at hSw); go_simp; (try with_reducible rfl))
  simp only [Act.put, List.setIfInBounds_toArray, List.set_cons_zero, List.set_cons_succ]
  refine wpAnyH_take (i := 5) (oi := { dst := some 27, op := Go.Op.move (Go.Operand.tmp 5), type := 24, pos := "explorer.go:57", after := #[], guard := none }) (v := ?v6) rfl (by kernel_rfl) (by kernel_rfl) (by kernel_rfl) (fun _ _ _ h => absurd h (hQp _ _ _)) (Or.inl ⟨by rfl, ?hy6⟩) (by assumption) ?rest6
  case hy6 => (intro w hSw; (try dsimp only at hSw); go_simp; (try with_reducible rfl))
  simp only [Act.put, List.setIfInBounds_toArray, List.set_cons_zero, List.set_cons_succ]
  refine wpAnyH_ready (rs := [6]) (by kernel_rfl) (by simp) ?_
  refine AllReadyH.cons (o := { dst := some 28, op := Go.Op.call { callee := Go.Callee.value (Go.Operand.func 61), args := #[Go.Operand.tmp 25, Go.Operand.tmp 26, Go.Operand.tmp 27], argTypes := #[26, 24, 24] }, type := 24, pos := "explorer.go:57", after := #[{ on := 3, ground := Go.Ground.data }, { on := 4, ground := Go.Ground.data }, { on := 5, ground := Go.Ground.data }], guard := none }) rfl (fun K hK => ?_) AllReadyH.nil
  go_simp
  refine HC.out.mono ?_
  rintro e wV ⟨g, rfl, hR⟩
  (try go_simp)
  refine hK.out _ _ ?hS7 (fun hHeld7 => ?rest7)
  case hS7 => refine ⟨cell_later (w := W.drew) ?_ y0, cell_later (w := W.drew) ?_ y1, cell_later (w := W.drew) ?_ m0, cell_later (w := W.drew) ?_ m1, cell_later (w := W.drew) ?_ m2, cell_later (w := W.drew) ?_ m3, cell_later (w := W.drew) ?_ m4⟩ <;> exact HR.out _ _ hR
  clear hK K
  (try simp only [Act.put, List.setIfInBounds_toArray, List.set_cons_zero, List.set_cons_succ])
  refine wpAnyH_take (i := 7) (oi := { dst := some 6, op := Go.Op.assign (Go.Operand.tmp 28), type := 24, pos := "explorer.go:57", after := #[{ on := 6, ground := Go.Ground.data }, { on := 6, ground := Go.Ground.chain }, { on := 0, ground := Go.Ground.phase }, { on := 1, ground := Go.Ground.phase }, { on := 2, ground := Go.Ground.phase }, { on := 3, ground := Go.Ground.phase }, { on := 4, ground := Go.Ground.phase }, { on := 5, ground := Go.Ground.phase }, { on := 6, ground := Go.Ground.phase }], guard := none }) (v := ?v8) rfl (by kernel_rfl) (by kernel_rfl) (by kernel_rfl) (fun _ _ _ h => absurd h (hQp _ _ _)) (Or.inl ⟨by rfl, ?hy8⟩) (by assumption) ?rest8
  case hy8 => (intro w hSw; (try dsimp only at hSw); go_simp; (try with_reducible rfl))
  simp only [Act.put, List.setIfInBounds_toArray, List.set_cons_zero, List.set_cons_succ]
  refine wpAnyH_done (by kernel_rfl) ?_ _
  exact HQ.out g wV hR
theorem other_cell {w : World} {b B i : Nat} {u : Value} (h : b ≠ B) : (w.setCell ⟨B, i, none⟩ u).cell? ⟨b, 0, none⟩ = w.cell? ⟨b, 0, none⟩ := World.cell?_of_block (Below.heap_setCell _ _ _ _ h)
set_option maxHeartbeats 4000000 in
theorem reg8 {l n : Nat} {Q : Exit → Act → World → Prop} (hQo : ¬ LetsOut Q) (hQp : ∀ c a w, ¬ Q (.panic c) a w) (t0 t1 t3 t5 t6 t7 t8 t9 t10 t11 t12 t13 t14 t15 t16 t17 t18 t19 t20 t21 t22 t23 t24 t25 t26 t27 t28 t29 t30 t31 t32 t33 t34 t35 t36 t37 t38 t39 t40 t41 t42 t43 t44 t45 t46 t47 t48 t49 t50 t51 t52 t53 t54 t55 t56 t57 t58 t59 t60 t61 t62 t63 t64 t65 t66 t67 t68 t69 t70 t71 t72 : Value) (b2 b4 B : Nat) (k : Int) (h2 : b2 ≠ B) (h4 : b4 ≠ B) (W : World)
    (y0 : W.cell? ⟨b2, 0, none⟩ = some (.pointer (some ⟨B, 0, none⟩))) (y4 : W.cell? ⟨b4, 0, none⟩ = some (.int .i64 k)) (u9 u10 : Value) (q9 : W.cell? ⟨B, 9, none⟩ = some u9) (q10 : W.cell? ⟨B, 10, none⟩ = some u10) (r9 : W.frozen? ⟨B, 9, none⟩ = false) (r10 : W.frozen? ⟨B, 10, none⟩ = false)
    (hQ : Q .normal { tmps := #[t0, t1, .pointer (some ⟨b2, 0, none⟩), t3, .pointer (some ⟨b4, 0, none⟩), t5, t6, t7, t8, t9, t10, t11, t12, t13, t14, t15, t16, t17, t18, t19, t20, t21, t22, t23, t24, t25, t26, t27, t28, t29, t30, t31, t32, t33, t34, t35, t36, t37, t38, t39, t40, t41, t42, t43, t44, t45, t46, t47, t48, .pointer (some ⟨B, 0, none⟩), .pointer (some ⟨B, 0, none⟩), .int .i64 k, .pointer (some ⟨B, 0, none⟩), .pointer (some ⟨B, 7, none⟩), .pointer (some ⟨B, 9, none⟩), .pointer (some ⟨B, 0, none⟩), .pointer (some ⟨B, 7, none⟩), .pointer (some ⟨B, 10, none⟩), t58, t59, t60, t61, t62, t63, t64, t65, t66, t67, t68, t69, t70, t71, t72], defers := [] } ((W.drew.setCell ⟨B, 9, none⟩ (.bool true)).setCell ⟨B, 10, none⟩ (.int .i64 k))) :
    (Code.region 8 #[{ dst := some 49, op := Go.Op.load 99 (Go.Operand.tmp 2), type := 99, pos := "explorer.go:63", after := #[], guard := none }, { dst := some 50, op := Go.Op.load 99 (Go.Operand.tmp 2), type := 99, pos := "explorer.go:63", after := #[{ on := 6, ground := Go.Ground.gcOnly Go.Departure.lateStores }], guard := none }, { dst := some 51, op := Go.Op.load 3 (Go.Operand.tmp 4), type := 3, pos := "explorer.go:63", after := #[{ on := 6, ground := Go.Ground.gcOnly Go.Departure.lateStores }], guard := none }, { dst := some 52, op := Go.Op.nilCheck (Go.Operand.tmp 49), type := 0, pos := "explorer.go:63", after := #[{ on := 0, ground := Go.Ground.data }, { on := 0, ground := Go.Ground.phase }, { on := 1, ground := Go.Ground.textOnly Go.Departure.lateStores }, { on := 2, ground := Go.Ground.textOnly Go.Departure.lateStores }], guard := none }, { dst := some 53, op := Go.Op.fieldAddr 49 (Go.Operand.tmp 52) 3, type := 0, pos := "explorer.go:63", after := #[{ on := 3, ground := Go.Ground.data }, { on := 0, ground := Go.Ground.phase }, { on := 1, ground := Go.Ground.textOnly Go.Departure.lateStores }, { on := 2, ground := Go.Ground.textOnly Go.Departure.lateStores }], guard := none }, { dst := some 54, op := Go.Op.fieldAddr 28 (Go.Operand.tmp 53) 2, type := 0, pos := "explorer.go:63", after := #[{ on := 4, ground := Go.Ground.data }, { on := 0, ground := Go.Ground.phase }, { on := 1, ground := Go.Ground.textOnly Go.Departure.lateStores }, { on := 2, ground := Go.Ground.textOnly Go.Departure.lateStores }], guard := none }, { dst := none, op := Go.Op.store 4 (Go.Operand.tmp 54) (Go.Operand.const (Go.Value.bool true)), type := 0, pos := "explorer.go:63", after := #[{ on := 5, ground := Go.Ground.data }, { on := 0, ground := Go.Ground.phase }, { on := 1, ground := Go.Ground.textOnly Go.Departure.lateStores }, { on := 2, ground := Go.Ground.textOnly Go.Departure.lateStores }], guard := none }, { dst := some 55, op := Go.Op.nilCheck (Go.Operand.tmp 50), type := 0, pos := "explorer.go:63", after := #[{ on := 1, ground := Go.Ground.data }, { on := 0, ground := Go.Ground.phase }, { on := 1, ground := Go.Ground.phase }, { on := 2, ground := Go.Ground.phase }, { on := 3, ground := Go.Ground.phase }, { on := 4, ground := Go.Ground.phase }, { on := 5, ground := Go.Ground.phase }, { on := 6, ground := Go.Ground.phase }], guard := none }, { dst := some 56, op := Go.Op.fieldAddr 49 (Go.Operand.tmp 55) 3, type := 0, pos := "explorer.go:63", after := #[{ on := 7, ground := Go.Ground.data }, { on := 0, ground := Go.Ground.phase }, { on := 1, ground := Go.Ground.phase }, { on := 2, ground := Go.Ground.phase }, { on := 3, ground := Go.Ground.phase }, { on := 4, ground := Go.Ground.phase }, { on := 5, ground := Go.Ground.phase }, { on := 6, ground := Go.Ground.phase }], guard := none }, { dst := some 57, op := Go.Op.fieldAddr 28 (Go.Operand.tmp 56) 3, type := 0, pos := "explorer.go:63", after := #[{ on := 8, ground := Go.Ground.data }, { on := 0, ground := Go.Ground.phase }, { on := 1, ground := Go.Ground.phase }, { on := 2, ground := Go.Ground.phase }, { on := 3, ground := Go.Ground.phase }, { on := 4, ground := Go.Ground.phase }, { on := 5, ground := Go.Ground.phase }, { on := 6, ground := Go.Ground.phase }], guard := none }, { dst := none, op := Go.Op.store 3 (Go.Operand.tmp 57) (Go.Operand.tmp 51), type := 0, pos := "explorer.go:63", after := #[{ on := 9, ground := Go.Ground.data }, { on := 2, ground := Go.Ground.data }, { on := 6, ground := Go.Ground.chain }, { on := 0, ground := Go.Ground.phase }, { on := 1, ground := Go.Ground.phase }, { on := 2, ground := Go.Ground.phase }, { on := 3, ground := Go.Ground.phase }, { on := 4, ground := Go.Ground.phase }, { on := 5, ground := Go.Ground.phase }, { on := 6, ground := Go.Ground.phase }], guard := none }] true).wpIn (Fence.wide.inRound l) n Try.prog Q { tmps := #[t0, t1, .pointer (some ⟨b2, 0, none⟩), t3, .pointer (some ⟨b4, 0, none⟩), t5, t6, t7, t8, t9, t10, t11, t12, t13, t14, t15, t16, t17, t18, t19, t20, t21, t22, t23, t24, t25, t26, t27, t28, t29, t30, t31, t32, t33, t34, t35, t36, t37, t38, t39, t40, t41, t42, t43, t44, t45, t46, t47, t48, t49, t50, t51, t52, t53, t54, t55, t56, t57, t58, t59, t60, t61, t62, t63, t64, t65, t66, t67, t68, t69, t70, t71, t72], defers := [] } W := by
  have HQ := hide hQ
  have HQO := hide hQo
  clear hQ hQo
  refine wpIn_round_held (S := fun w' => w'.cell? ⟨b2, 0, none⟩ = some (.pointer (some ⟨B, 0, none⟩)) ∧ w'.cell? ⟨b4, 0, none⟩ = some (.int .i64 k)) (by kernel_rfl) HQO.out (by kernel_rfl) ⟨y0, y4⟩ (fun hHeld => ?_)
  clear HQO
  refine wpAnyH_take (i := 0) (oi := { dst := some 49, op := Go.Op.load 99 (Go.Operand.tmp 2), type := 99, pos := "explorer.go:63", after := #[], guard := none }) (v := ?v9) rfl (by kernel_rfl) (by kernel_rfl) (by kernel_rfl) (fun _ _ _ h => absurd h (hQp _ _ _)) (Or.inl ⟨by rfl, ?hy9⟩) (by assumption) ?rest9
  case hy9 => (intro w hSw; (try dsimp only at hSw); go_simp; (try with_reducible rfl))
  simp only [Act.put, List.setIfInBounds_toArray, List.set_cons_zero, List.set_cons_succ]
  refine wpAnyH_take (i := 1) (oi := { dst := some 50, op := Go.Op.load 99 (Go.Operand.tmp 2), type := 99, pos := "explorer.go:63", after := #[{ on := 6, ground := Go.Ground.gcOnly Go.Departure.lateStores }], guard := none }) (v := ?v10) rfl (by kernel_rfl) (by kernel_rfl) (by kernel_rfl) (fun _ _ _ h => absurd h (hQp _ _ _)) (Or.inl ⟨by rfl, ?hy10⟩) (by assumption) ?rest10
  case hy10 => (intro w hSw; (try dsimp only at hSw); go_simp; (try with_reducible rfl))
  simp only [Act.put, List.setIfInBounds_toArray, List.set_cons_zero, List.set_cons_succ]
  refine wpAnyH_take (i := 2) (oi := { dst := some 51, op := Go.Op.load 3 (Go.Operand.tmp 4), type := 3, pos := "explorer.go:63", after := #[{ on := 6, ground := Go.Ground.gcOnly Go.Departure.lateStores }], guard := none }) (v := ?v11) rfl (by kernel_rfl) (by kernel_rfl) (by kernel_rfl) (fun _ _ _ h => absurd h (hQp _ _ _)) (Or.inl ⟨by rfl, ?hy11⟩) (by assumption) ?rest11
  case hy11 => (intro w hSw; (try dsimp only at hSw); go_simp; (try with_reducible rfl))
  simp only [Act.put, List.setIfInBounds_toArray, List.set_cons_zero, List.set_cons_succ]
  refine wpAnyH_take (i := 3) (oi := { dst := some 52, op := Go.Op.nilCheck (Go.Operand.tmp 49), type := 0, pos := "explorer.go:63", after := #[{ on := 0, ground := Go.Ground.data }, { on := 0, ground := Go.Ground.phase }, { on := 1, ground := Go.Ground.textOnly Go.Departure.lateStores }, { on := 2, ground := Go.Ground.textOnly Go.Departure.lateStores }], guard := none }) (v := ?v12) rfl (by kernel_rfl) (by kernel_rfl) (by kernel_rfl) (fun _ _ _ h => absurd h (hQp _ _ _)) (Or.inl ⟨by rfl, ?hy12⟩) (by assumption) ?rest12
  case hy12 => (intro w hSw; (try dsimp only at hSw); go_simp; (try with_reducible rfl))
  simp only [Act.put, List.setIfInBounds_toArray, List.set_cons_zero, List.set_cons_succ]
  refine wpAnyH_take (i := 4) (oi := { dst := some 53, op := Go.Op.fieldAddr 49 (Go.Operand.tmp 52) 3, type := 0, pos := "explorer.go:63", after := #[{ on := 3, ground := Go.Ground.data }, { on := 0, ground := Go.Ground.phase }, { on := 1, ground := Go.Ground.textOnly Go.Departure.lateStores }, { on := 2, ground := Go.Ground.textOnly Go.Departure.lateStores }], guard := none }) (v := ?v13) rfl (by kernel_rfl) (by kernel_rfl) (by kernel_rfl) (fun _ _ _ h => absurd h (hQp _ _ _)) (Or.inl ⟨by rfl, ?hy13⟩) (by assumption) ?rest13
  case hy13 => (intro w hSw; (try dsimp only at hSw); go_simp; (try with_reducible rfl))
  simp only [Act.put, List.setIfInBounds_toArray, List.set_cons_zero, List.set_cons_succ]
  refine wpAnyH_take (i := 5) (oi := { dst := some 54, op := Go.Op.fieldAddr 28 (Go.Operand.tmp 53) 2, type := 0, pos := "explorer.go:63", after := #[{ on := 4, ground := Go.Ground.data }, { on := 0, ground := Go.Ground.phase }, { on := 1, ground := Go.Ground.textOnly Go.Departure.lateStores }, { on := 2, ground := Go.Ground.textOnly Go.Departure.lateStores }], guard := none }) (v := ?v14) rfl (by kernel_rfl) (by kernel_rfl) (by kernel_rfl) (fun _ _ _ h => absurd h (hQp _ _ _)) (Or.inl ⟨by rfl, ?hy14⟩) (by assumption) ?rest14
  case hy14 => (intro w hSw; (try dsimp only at hSw); go_simp; (try with_reducible rfl))
  simp only [Act.put, List.setIfInBounds_toArray, List.set_cons_zero, List.set_cons_succ]
  refine wpAnyH_ready (rs := [6]) (by kernel_rfl) (by simp) ?_
  refine AllReadyH.cons (o := { dst := none, op := Go.Op.store 4 (Go.Operand.tmp 54) (Go.Operand.const (Go.Value.bool true)), type := 0, pos := "explorer.go:63", after := #[{ on := 5, ground := Go.Ground.data }, { on := 0, ground := Go.Ground.phase }, { on := 1, ground := Go.Ground.textOnly Go.Departure.lateStores }, { on := 2, ground := Go.Ground.textOnly Go.Departure.lateStores }], guard := none }) rfl (fun K hK => ?_) AllReadyH.nil
  go_simp
  refine hK.out _ _ ?hS15 (fun hHeld15 => ?rest15)
  case hS15 => exact ⟨(other_cell (w := W) h2).trans y0, (other_cell (w := W) h4).trans y4⟩
  clear hK K
  (try simp only [Act.put, List.setIfInBounds_toArray, List.set_cons_zero, List.set_cons_succ])
  refine wpAnyH_take (i := 7) (oi := { dst := some 55, op := Go.Op.nilCheck (Go.Operand.tmp 50), type := 0, pos := "explorer.go:63", after := #[{ on := 1, ground := Go.Ground.data }, { on := 0, ground := Go.Ground.phase }, { on := 1, ground := Go.Ground.phase }, { on := 2, ground := Go.Ground.phase }, { on := 3, ground := Go.Ground.phase }, { on := 4, ground := Go.Ground.phase }, { on := 5, ground := Go.Ground.phase }, { on := 6, ground := Go.Ground.phase }], guard := none }) (v := ?v16) rfl (by kernel_rfl) (by kernel_rfl) (by kernel_rfl) (fun _ _ _ h => absurd h (hQp _ _ _)) (Or.inl ⟨by rfl, ?hy16⟩) (by assumption) ?rest16
  case hy16 => (intro w hSw; (try dsimp only at hSw); go_simp; (try with_reducible rfl))
  simp only [Act.put, List.setIfInBounds_toArray, List.set_cons_zero, List.set_cons_succ]
  refine wpAnyH_take (i := 8) (oi := { dst := some 56, op := Go.Op.fieldAddr 49 (Go.Operand.tmp 55) 3, type := 0, pos := "explorer.go:63", after := #[{ on := 7, ground := Go.Ground.data }, { on := 0, ground := Go.Ground.phase }, { on := 1, ground := Go.Ground.phase }, { on := 2, ground := Go.Ground.phase }, { on := 3, ground := Go.Ground.phase }, { on := 4, ground := Go.Ground.phase }, { on := 5, ground := Go.Ground.phase }, { on := 6, ground := Go.Ground.phase }], guard := none }) (v := ?v17) rfl (by kernel_rfl) (by kernel_rfl) (by kernel_rfl) (fun _ _ _ h => absurd h (hQp _ _ _)) (Or.inl ⟨by rfl, ?hy17⟩) (by assumption) ?rest17
  case hy17 => (intro w hSw; (try dsimp only at hSw); go_simp; (try with_reducible rfl))
  simp only [Act.put, List.setIfInBounds_toArray, List.set_cons_zero, List.set_cons_succ]
  refine wpAnyH_take (i := 9) (oi := { dst := some 57, op := Go.Op.fieldAddr 28 (Go.Operand.tmp 56) 3, type := 0, pos := "explorer.go:63", after := #[{ on := 8, ground := Go.Ground.data }, { on := 0, ground := Go.Ground.phase }, { on := 1, ground := Go.Ground.phase }, { on := 2, ground := Go.Ground.phase }, { on := 3, ground := Go.Ground.phase }, { on := 4, ground := Go.Ground.phase }, { on := 5, ground := Go.Ground.phase }, { on := 6, ground := Go.Ground.phase }], guard := none }) (v := ?v18) rfl (by kernel_rfl) (by kernel_rfl) (by kernel_rfl) (fun _ _ _ h => absurd h (hQp _ _ _)) (Or.inl ⟨by rfl, ?hy18⟩) (by assumption) ?rest18
  case hy18 => (intro w hSw; (try dsimp only at hSw); go_simp; (try with_reducible rfl))
  simp only [Act.put, List.setIfInBounds_toArray, List.set_cons_zero, List.set_cons_succ]
  refine wpAnyH_ready (rs := [10]) (by kernel_rfl) (by simp) ?_
  refine AllReadyH.cons (o := { dst := none, op := Go.Op.store 3 (Go.Operand.tmp 57) (Go.Operand.tmp 51), type := 0, pos := "explorer.go:63", after := #[{ on := 9, ground := Go.Ground.data }, { on := 2, ground := Go.Ground.data }, { on := 6, ground := Go.Ground.chain }, { on := 0, ground := Go.Ground.phase }, { on := 1, ground := Go.Ground.phase }, { on := 2, ground := Go.Ground.phase }, { on := 3, ground := Go.Ground.phase }, { on := 4, ground := Go.Ground.phase }, { on := 5, ground := Go.Ground.phase }, { on := 6, ground := Go.Ground.phase }], guard := none }) rfl (fun K hK => ?_) AllReadyH.nil
  go_simp
  refine hK.out _ _ ?hS19 (fun hHeld19 => ?rest19)
  case hS19 => exact ⟨(other_cell h2).trans ((other_cell (w := W) h2).trans y0), (other_cell h4).trans ((other_cell (w := W) h4).trans y4)⟩
  clear hK K
  (try simp only [Act.put, List.setIfInBounds_toArray, List.set_cons_zero, List.set_cons_succ])
  refine wpAnyH_done (by kernel_rfl) ?_ _
  exact HQ.out
set_option maxHeartbeats 4000000 in
theorem reg9 {l n : Nat} {Q : Exit → Act → World → Prop} (hQo : ¬ LetsOut Q) (hQp : ∀ c a w, ¬ Q (.panic c) a w) (t0 t1 t3 t5 t6 t7 t8 t9 t10 t11 t12 t13 t14 t15 t16 t17 t18 t19 t20 t21 t22 t23 t24 t25 t26 t27 t28 t29 t30 t31 t32 t33 t34 t35 t36 t37 t38 t39 t40 t41 t42 t43 t44 t45 t46 t47 t48 t49 t50 t51 t52 t53 t54 t55 t56 t57 t58 t59 t60 t61 t62 t63 t64 t65 t66 t67 t68 t69 t70 t71 t72 : Value) (b2 b4 B : Nat) (k : Int) (hk : IntKind.i64.wrap (k + 1) = k + 1) (a0 a1 a2 a3 a4 : Option Addr) (l0 l1 l2 l3 l4 c0 c1 c2 c3 c4 : Nat) (W : World)
    (y0 : W.cell? ⟨b2, 0, none⟩ = some (.pointer (some ⟨B, 0, none⟩))) (y4 : W.cell? ⟨b4, 0, none⟩ = some (.int .i64 k)) (m0 : W.cell? ⟨B, 0, none⟩ = some (.slice a0 l0 c0)) (m1 : W.cell? ⟨B, 1, none⟩ = some (.slice a1 l1 c1)) (m2 : W.cell? ⟨B, 2, none⟩ = some (.slice a2 l2 c2)) (m3 : W.cell? ⟨B, 3, none⟩ = some (.slice a3 l3 c3)) (m4 : W.cell? ⟨B, 4, none⟩ = some (.slice a4 l4 c4))
    (R : Value → World → Prop) (hR : ∀ v w', R v w' → Below W.drew.heap.size W.drew w') (R2 : Value → World → World → Prop)
    (hC : Calls Try.prog 39 #[.agg #[.slice a0 l0 c0, .slice a1 l1 c1, .slice a2 l2 c2, .slice a3 l3 c3, .slice a4 l4 c4], .slice a2 l2 c2, t6] W.drew fun e w' => ∃ v, e = .returned v ∧ R v w')
    (hC2 : ∀ v w', R v w' → Calls Try.prog 35 #[.pointer (some ⟨B, 0, none⟩), v, .int .i64 (k + 1)] w' fun e w'' => e = .returned (.tuple #[]) ∧ R2 v w' w'')
    (hS2 : ∀ v w' w'', R v w' → R2 v w' w'' → (fun w' : World => w'.cell? ⟨b2, 0, none⟩ = some (.pointer (some ⟨B, 0, none⟩)) ∧ w'.cell? ⟨b4, 0, none⟩ = some (.int .i64 k) ∧ w'.cell? ⟨B, 0, none⟩ = some (.slice a0 l0 c0) ∧ w'.cell? ⟨B, 1, none⟩ = some (.slice a1 l1 c1) ∧ w'.cell? ⟨B, 2, none⟩ = some (.slice a2 l2 c2) ∧ w'.cell? ⟨B, 3, none⟩ = some (.slice a3 l3 c3) ∧ w'.cell? ⟨B, 4, none⟩ = some (.slice a4 l4 c4)) w'')
    (hQ : ∀ v69 w' w'', R v69 w' → R2 v69 w' w'' → Q .normal { tmps := #[t0, t1, .pointer (some ⟨b2, 0, none⟩), t3, .pointer (some ⟨b4, 0, none⟩), t5, t6, t7, t8, t9, t10, t11, t12, t13, t14, t15, t16, t17, t18, t19, t20, t21, t22, t23, t24, t25, t26, t27, t28, t29, t30, t31, t32, t33, t34, t35, t36, t37, t38, t39, t40, t41, t42, t43, t44, t45, t46, t47, t48, t49, t50, t51, t52, t53, t54, t55, t56, t57, .pointer (some ⟨B, 0, none⟩), .pointer (some ⟨B, 0, none⟩), .pointer (some ⟨B, 0, none⟩), .pointer (some ⟨B, 0, none⟩), .agg #[.slice a0 l0 c0, .slice a1 l1 c1, .slice a2 l2 c2, .slice a3 l3 c3, .slice a4 l4 c4], .pointer (some ⟨B, 0, none⟩), .pointer (some ⟨B, 0, none⟩), .pointer (some ⟨B, 0, none⟩), .pointer (some ⟨B, 2, none⟩), .slice a2 l2 c2, t6, v69, .int .i64 k, .int .i64 (k + 1), .tuple #[]], defers := [] } w'') :
    (Code.region 9 #[{ dst := some 58, op := Go.Op.load 99 (Go.Operand.tmp 2), type := 99, pos := "explorer.go:65", after := #[], guard := none }, { dst := some 59, op := Go.Op.load 99 (Go.Operand.tmp 2), type := 99, pos := "explorer.go:65", after := #[], guard := none }, { dst := some 60, op := Go.Op.nilCheck (Go.Operand.tmp 59), type := 0, pos := "explorer.go:65", after := #[{ on := 1, ground := Go.Ground.data }], guard := none }, { dst := some 61, op := Go.Op.fieldAddr 49 (Go.Operand.tmp 60) 0, type := 0, pos := "explorer.go:65", after := #[{ on := 2, ground := Go.Ground.data }], guard := none }, { dst := some 62, op := Go.Op.load 26 (Go.Operand.tmp 61), type := 26, pos := "explorer.go:65", after := #[{ on := 3, ground := Go.Ground.data }], guard := none }, { dst := some 63, op := Go.Op.load 99 (Go.Operand.tmp 2), type := 99, pos := "explorer.go:65", after := #[], guard := none }, { dst := some 64, op := Go.Op.nilCheck (Go.Operand.tmp 63), type := 0, pos := "explorer.go:65", after := #[{ on := 5, ground := Go.Ground.data }], guard := none }, { dst := some 65, op := Go.Op.fieldAddr 49 (Go.Operand.tmp 64) 0, type := 0, pos := "explorer.go:65", after := #[{ on := 6, ground := Go.Ground.data }], guard := none }, { dst := some 66, op := Go.Op.fieldAddr 26 (Go.Operand.tmp 65) 2, type := 0, pos := "explorer.go:65", after := #[{ on := 7, ground := Go.Ground.data }], guard := none }, { dst := some 67, op := Go.Op.load 23 (Go.Operand.tmp 66), type := 23, pos := "explorer.go:65", after := #[{ on := 8, ground := Go.Ground.data }], guard := none }, { dst := some 68, op := Go.Op.move (Go.Operand.tmp 6), type := 24, pos := "explorer.go:65", after := #[], guard := none }, { dst := some 69, op := Go.Op.call { callee := Go.Callee.value (Go.Operand.func 39), args := #[Go.Operand.tmp 62, Go.Operand.tmp 67, Go.Operand.tmp 68], argTypes := #[26, 23, 24] }, type := 24, pos := "explorer.go:65", after := #[{ on := 4, ground := Go.Ground.data }, { on := 9, ground := Go.Ground.data }, { on := 10, ground := Go.Ground.data }], guard := none }, { dst := some 70, op := Go.Op.load 3 (Go.Operand.tmp 4), type := 3, pos := "explorer.go:65", after := #[], guard := none }, { dst := some 71, op := Go.Op.binOp Go.BinOp.add 3 (Go.Operand.tmp 70) (Go.Operand.const (Go.Value.int Go.IntKind.i64 1)) 3, type := 3, pos := "explorer.go:65", after := #[{ on := 12, ground := Go.Ground.data }], guard := none }, { dst := some 72, op := Go.Op.call { callee := Go.Callee.value (Go.Operand.func 35), args := #[Go.Operand.tmp 58, Go.Operand.tmp 69, Go.Operand.tmp 71], argTypes := #[99, 24, 3] }, type := 0, pos := "explorer.go:65", after := #[{ on := 0, ground := Go.Ground.data }, { on := 11, ground := Go.Ground.data }, { on := 13, ground := Go.Ground.data }, { on := 11, ground := Go.Ground.chain }], guard := none }] true).wpIn (Fence.wide.inRound l) n Try.prog Q { tmps := #[t0, t1, .pointer (some ⟨b2, 0, none⟩), t3, .pointer (some ⟨b4, 0, none⟩), t5, t6, t7, t8, t9, t10, t11, t12, t13, t14, t15, t16, t17, t18, t19, t20, t21, t22, t23, t24, t25, t26, t27, t28, t29, t30, t31, t32, t33, t34, t35, t36, t37, t38, t39, t40, t41, t42, t43, t44, t45, t46, t47, t48, t49, t50, t51, t52, t53, t54, t55, t56, t57, t58, t59, t60, t61, t62, t63, t64, t65, t66, t67, t68, t69, t70, t71, t72], defers := [] } W := by
  have HC := hide hC
  have HC2 := hide hC2
  have HR := hide hR
  have HS2 := hide hS2
  have HQ := hide hQ
  have HQO := hide hQo
  clear hC hR hQ hQo hC2 hS2
  refine wpIn_round_held (S := fun w' => w'.cell? ⟨b2, 0, none⟩ = some (.pointer (some ⟨B, 0, none⟩)) ∧ w'.cell? ⟨b4, 0, none⟩ = some (.int .i64 k) ∧ w'.cell? ⟨B, 0, none⟩ = some (.slice a0 l0 c0) ∧ w'.cell? ⟨B, 1, none⟩ = some (.slice a1 l1 c1) ∧ w'.cell? ⟨B, 2, none⟩ = some (.slice a2 l2 c2) ∧ w'.cell? ⟨B, 3, none⟩ = some (.slice a3 l3 c3) ∧ w'.cell? ⟨B, 4, none⟩ = some (.slice a4 l4 c4)) (by kernel_rfl) HQO.out (by kernel_rfl) ⟨y0, y4, m0, m1, m2, m3, m4⟩ (fun hHeld => ?_)
  clear HQO
  refine wpAnyH_take (i := 0) (oi := { dst := some 58, op := Go.Op.load 99 (Go.Operand.tmp 2), type := 99, pos := "explorer.go:65", after := #[], guard := none }) (v := ?v20) rfl (by kernel_rfl) (by kernel_rfl) (by kernel_rfl) (fun _ _ _ h => absurd h (hQp _ _ _)) (Or.inl ⟨by rfl, ?hy20⟩) (by assumption) ?rest20
  case hy20 => (intro w hSw; (try dsimp only at hSw); go_simp; (try with_reducible rfl))
  simp only [Act.put, List.setIfInBounds_toArray, List.set_cons_zero, List.set_cons_succ]
  refine wpAnyH_take (i := 1) (oi := { dst := some 59, op := Go.Op.load 99 (Go.Operand.tmp 2), type := 99, pos := "explorer.go:65", after := #[], guard := none }) (v := ?v21) rfl (by kernel_rfl) (by kernel_rfl) (by kernel_rfl) (fun _ _ _ h => absurd h (hQp _ _ _)) (Or.inl ⟨by rfl, ?hy21⟩) (by assumption) ?rest21
  case hy21 => (intro w hSw; (try dsimp only at hSw); go_simp; (try with_reducible rfl))
  simp only [Act.put, List.setIfInBounds_toArray, List.set_cons_zero, List.set_cons_succ]
  refine wpAnyH_take (i := 2) (oi := { dst := some 60, op := Go.Op.nilCheck (Go.Operand.tmp 59), type := 0, pos := "explorer.go:65", after := #[{ on := 1, ground := Go.Ground.data }], guard := none }) (v := ?v22) rfl (by kernel_rfl) (by kernel_rfl) (by kernel_rfl) (fun _ _ _ h => absurd h (hQp _ _ _)) (Or.inl ⟨by rfl, ?hy22⟩) (by assumption) ?rest22
  case hy22 => (intro w hSw; (try dsimp only at hSw); go_simp; (try with_reducible rfl))
  simp only [Act.put, List.setIfInBounds_toArray, List.set_cons_zero, List.set_cons_succ]
  refine wpAnyH_take (i := 3) (oi := { dst := some 61, op := Go.Op.fieldAddr 49 (Go.Operand.tmp 60) 0, type := 0, pos := "explorer.go:65", after := #[{ on := 2, ground := Go.Ground.data }], guard := none }) (v := ?v23) rfl (by kernel_rfl) (by kernel_rfl) (by kernel_rfl) (fun _ _ _ h => absurd h (hQp _ _ _)) (Or.inl ⟨by rfl, ?hy23⟩) (by assumption) ?rest23
  case hy23 => (intro w hSw; (try dsimp only at hSw); go_simp; (try with_reducible rfl))
  simp only [Act.put, List.setIfInBounds_toArray, List.set_cons_zero, List.set_cons_succ]
  refine wpAnyH_take (i := 4) (oi := { dst := some 62, op := Go.Op.load 26 (Go.Operand.tmp 61), type := 26, pos := "explorer.go:65", after := #[{ on := 3, ground := Go.Ground.data }], guard := none }) (v := ?v24) rfl (by kernel_rfl) (by kernel_rfl) (by kernel_rfl) (fun _ _ _ h => absurd h (hQp _ _ _)) (Or.inl ⟨by rfl, ?hy24⟩) (by assumption) ?rest24
  case hy24 => (intro w hSw; (try dsimp only at hSw); go_simp; (try with_reducible rfl))
  simp only [Act.put, List.setIfInBounds_toArray, List.set_cons_zero, List.set_cons_succ]
  refine wpAnyH_take (i := 5) (oi := { dst := some 63, op := Go.Op.load 99 (Go.Operand.tmp 2), type := 99, pos := "explorer.go:65", after := #[], guard := none }) (v := ?v25) rfl (by kernel_rfl) (by kernel_rfl) (by kernel_rfl) (fun _ _ _ h => absurd h (hQp _ _ _)) (Or.inl ⟨by rfl, ?hy25⟩) (by assumption) ?rest25
  case hy25 => (intro w hSw; (try dsimp only at hSw); go_simp; (try with_reducible rfl))
  simp only [Act.put, List.setIfInBounds_toArray, List.set_cons_zero, List.set_cons_succ]
  refine wpAnyH_take (i := 6) (oi := { dst := some 64, op := Go.Op.nilCheck (Go.Operand.tmp 63), type := 0, pos := "explorer.go:65", after := #[{ on := 5, ground := Go.Ground.data }], guard := none }) (v := ?v26) rfl (by kernel_rfl) (by kernel_rfl) (by kernel_rfl) (fun _ _ _ h => absurd h (hQp _ _ _)) (Or.inl ⟨by rfl, ?hy26⟩) (by assumption) ?rest26
  case hy26 => (intro w hSw; (try dsimp only at hSw); go_simp; (try with_reducible rfl))
  simp only [Act.put, List.setIfInBounds_toArray, List.set_cons_zero, List.set_cons_succ]
  refine wpAnyH_take (i := 7) (oi := { dst := some 65, op := Go.Op.fieldAddr 49 (Go.Operand.tmp 64) 0, type := 0, pos := "explorer.go:65", after := #[{ on := 6, ground := Go.Ground.data }], guard := none }) (v := ?v27) rfl (by kernel_rfl) (by kernel_rfl) (by kernel_rfl) (fun _ _ _ h => absurd h (hQp _ _ _)) (Or.inl ⟨by rfl, ?hy27⟩) (by assumption) ?rest27
  case hy27 => (intro w hSw; (try dsimp only at hSw); go_simp; (try with_reducible rfl))
  simp only [Act.put, List.setIfInBounds_toArray, List.set_cons_zero, List.set_cons_succ]
  refine wpAnyH_take (i := 8) (oi := { dst := some 66, op := Go.Op.fieldAddr 26 (Go.Operand.tmp 65) 2, type := 0, pos := "explorer.go:65", after := #[{ on := 7, ground := Go.Ground.data }], guard := none }) (v := ?v28) rfl (by kernel_rfl) (by kernel_rfl) (by kernel_rfl) (fun _ _ _ h => absurd h (hQp _ _ _)) (Or.inl ⟨by rfl, ?hy28⟩) (by assumption) ?rest28
  case hy28 => (intro w hSw; (try dsimp only at hSw); go_simp; (try with_reducible rfl))
  simp only [Act.put, List.setIfInBounds_toArray, List.set_cons_zero, List.set_cons_succ]
  refine wpAnyH_take (i := 9) (oi := { dst := some 67, op := Go.Op.load 23 (Go.Operand.tmp 66), type := 23, pos := "explorer.go:65", after := #[{ on := 8, ground := Go.Ground.data }], guard := none }) (v := ?v29) rfl (by kernel_rfl) (by kernel_rfl) (by kernel_rfl) (fun _ _ _ h => absurd h (hQp _ _ _)) (Or.inl ⟨by rfl, ?hy29⟩) (by assumption) ?rest29
  case hy29 => (intro w hSw; (try dsimp only at hSw); go_simp; (try with_reducible rfl))
  simp only [Act.put, List.setIfInBounds_toArray, List.set_cons_zero, List.set_cons_succ]
  refine wpAnyH_take (i := 10) (oi := { dst := some 68, op := Go.Op.move (Go.Operand.tmp 6), type := 24, pos := "explorer.go:65", after := #[], guard := none }) (v := ?v30) rfl (by kernel_rfl) (by kernel_rfl) (by kernel_rfl) (fun _ _ _ h => absurd h (hQp _ _ _)) (Or.inl ⟨by rfl, ?hy30⟩) (by assumption) ?rest30
  case hy30 => (intro w hSw; (try dsimp only at hSw); go_simp; (try with_reducible rfl))
  simp only [Act.put, List.setIfInBounds_toArray, List.set_cons_zero, List.set_cons_succ]
  refine wpAnyH_take (i := 12) (oi := { dst := some 70, op := Go.Op.load 3 (Go.Operand.tmp 4), type := 3, pos := "explorer.go:65", after := #[], guard := none }) (v := ?v31) rfl (by kernel_rfl) (by kernel_rfl) (by kernel_rfl) (fun _ _ _ h => absurd h (hQp _ _ _)) (Or.inl ⟨by rfl, ?hy31⟩) (by assumption) ?rest31
  case hy31 => (intro w hSw; (try dsimp only at hSw); go_simp; (try with_reducible rfl))
  simp only [Act.put, List.setIfInBounds_toArray, List.set_cons_zero, List.set_cons_succ]
  refine wpAnyH_take (i := 13) (oi := { dst := some 71, op := Go.Op.binOp Go.BinOp.add 3 (Go.Operand.tmp 70) (Go.Operand.const (Go.Value.int Go.IntKind.i64 1)) 3, type := 3, pos := "explorer.go:65", after := #[{ on := 12, ground := Go.Ground.data }], guard := none }) (v := ?v32) rfl (by kernel_rfl) (by kernel_rfl) (by kernel_rfl) (fun _ _ _ h => absurd h (hQp _ _ _)) (Or.inl ⟨by rfl, ?hy32⟩) (by assumption) ?rest32
  case hy32 => (intro w hSw; (try dsimp only at hSw); go_simp; (try with_reducible rfl))
  simp only [Act.put, List.setIfInBounds_toArray, List.set_cons_zero, List.set_cons_succ]
  refine wpAnyH_ready (rs := [11]) (by kernel_rfl) (by simp) ?_
  refine AllReadyH.cons (o := { dst := some 69, op := Go.Op.call { callee := Go.Callee.value (Go.Operand.func 39), args := #[Go.Operand.tmp 62, Go.Operand.tmp 67, Go.Operand.tmp 68], argTypes := #[26, 23, 24] }, type := 24, pos := "explorer.go:65", after := #[{ on := 4, ground := Go.Ground.data }, { on := 9, ground := Go.Ground.data }, { on := 10, ground := Go.Ground.data }], guard := none }) rfl (fun K hK => ?_) AllReadyH.nil
  go_simp
  refine HC.out.mono ?_
  rintro e wV ⟨v69, rfl, hR⟩
  (try go_simp)
  refine hK.out _ _ ?hS33 (fun hHeld33 => ?rest33)
  case hS33 => refine ⟨cell_later (w := W.drew) ?_ y0, cell_later (w := W.drew) ?_ y4, cell_later (w := W.drew) ?_ m0, cell_later (w := W.drew) ?_ m1, cell_later (w := W.drew) ?_ m2, cell_later (w := W.drew) ?_ m3, cell_later (w := W.drew) ?_ m4⟩ <;> exact HR.out _ _ hR
  clear hK K
  (try simp only [Act.put, List.setIfInBounds_toArray, List.set_cons_zero, List.set_cons_succ])
  refine wpAnyH_ready (rs := [14]) (by kernel_rfl) (by simp) ?_
  refine AllReadyH.cons (o := { dst := some 72, op := Go.Op.call { callee := Go.Callee.value (Go.Operand.func 35), args := #[Go.Operand.tmp 58, Go.Operand.tmp 69, Go.Operand.tmp 71], argTypes := #[99, 24, 3] }, type := 0, pos := "explorer.go:65", after := #[{ on := 0, ground := Go.Ground.data }, { on := 11, ground := Go.Ground.data }, { on := 13, ground := Go.Ground.data }, { on := 11, ground := Go.Ground.chain }], guard := none }) rfl (fun K hK => ?_) AllReadyH.nil
  go_simp
  refine (HC2.out _ _ hR).mono ?_
  rintro e wM ⟨rfl, hR2⟩
  (try go_simp)
  refine hK.out _ _ ?hS34 (fun hHeld34 => ?rest34)
  case hS34 => exact HS2.out _ _ _ hR hR2
  clear hK K
  (try simp only [Act.put, List.setIfInBounds_toArray, List.set_cons_zero, List.set_cons_succ])
  refine wpAnyH_done (by kernel_rfl) ?_ _
  exact HQ.out _ _ _ hR hR2
end Go.Proofs.Ytfobcnhibhbbaaa.Xp

namespace Go.Proofs.Ytfobcnhibhbbaaa.Xp
open Go.RowKit Go.Maps Go.WideMaps Go.WideShapes Go.Shelf
set_option maxRecDepth 100000

/-- What a round leaves that goes on to a state. -/
def LvStep (W : World) (Y : Nat → Prop) (B S nM : Nat) (v0 v1 v2 v3 v4 : Value) (n : Nat) (M : List (Sg × Nat)) (bad : Option Nat) (q : Nat) (w' : World) : Prop :=
  ∃ X2 va2 rows2, Ex w' X2 B S nM v0 v1 v2 v3 v4 va2 n M rows2 (foundE M bad) ∧ Fz Y W w' X2 ∧ rows2.map Rw.ns = (M.map (·.1)).drop q ∧ ∀ r ∈ rows2, r.ns.length ≤ r.cap ∧ r.cap ≤ maxLen
theorem lv_tail {l d : Nat} {Q : Exit → Act → World → Prop} (hQo : ¬ LetsOut Q) (hQp : ∀ c a w, ¬ Q (.panic c) a w) (t0 t1 t3 t5 t7 t8 t9 t10 t11 t12 t13 t14 t15 t16 t17 t18 t19 t20 t21 t22 t23 t24 t25 t26 t27 t28 t29 t30 t31 t32 t33 t34 t35 t36 t37 t38 t39 t40 t41 t42 t43 t44 t45 t46 t47 t48 t49 t50 t51 t52 t53 t54 t55 t56 t57 t58 t59 t60 t61 t62 t63 t64 t65 t66 t67 t68 t69 t70 t71 t72 : Value)
    (a0 a1 a2 a3 a4 : Option Addr) (c0 c1 c2 c3 c4 : Nat) (ns : List Nd) (is xs : List (Int × Int)) (bs hs : List Int) (hck : checkE ns is xs bs hs = 0) (hlx : xs.length ≤ 8796093022208)
    (b2 b4 g B S nM k q n : Nat) (Y : Nat → Prop) (W wB : World) (va : Value) (M : List (Sg × Nat)) (rows : List Rw) (bad : Option Nat) (V : List Int) (hV : V.length = ns.length) (hfit : Fits n (followL ns xs V))
    (hE : Ex wB Y B S nM (.slice a0 ns.length c0) (.slice a1 is.length c1) (.slice a2 xs.length c2) (.slice a3 bs.length c3) (.slice a4 hs.length c4) va n M rows (foundE M bad)) (hF : Fz Y W wB Y) (hrw : rows.map Rw.ns = (M.map (·.1)).drop q) (hcp : ∀ r ∈ rows, r.ns.length ≤ r.cap ∧ r.cap ≤ maxLen)
    (hMd : MdAt ⟨a0, c0, a1, is.length, c1, a2, xs.length, c2, a3, bs.length, c3, a4, hs.length, c4⟩ ns is xs bs hs wB) (hRow : IRow wB g V)
    (y0 : wB.cell? ⟨b2, 0, none⟩ = some (.pointer (some ⟨B, 0, none⟩))) (y4 : wB.cell? ⟨b4, 0, none⟩ = some (.int .i64 k)) (h2 : ¬ Y b2) (h4 : ¬ Y b4)
    (hk : k ≤ 2000) (hM : M.length ≤ 3000) (hnM : nM ≤ 200000000) (hq : q ≤ M.length)
    (hQ : ∀ a w', LvStep W Y B S (nM + 1) (.slice a0 ns.length c0) (.slice a1 is.length c1) (.slice a2 xs.length c2) (.slice a3 bs.length c3) (.slice a4 hs.length c4) n (meetE M (followL ns xs V) (k + 1)) bad q w' → Q .normal a w') :
    (Code.region 9 #[{ dst := some 58, op := Go.Op.load 99 (Go.Operand.tmp 2), type := 99, pos := "explorer.go:65", after := #[], guard := none }, { dst := some 59, op := Go.Op.load 99 (Go.Operand.tmp 2), type := 99, pos := "explorer.go:65", after := #[], guard := none }, { dst := some 60, op := Go.Op.nilCheck (Go.Operand.tmp 59), type := 0, pos := "explorer.go:65", after := #[{ on := 1, ground := Go.Ground.data }], guard := none }, { dst := some 61, op := Go.Op.fieldAddr 49 (Go.Operand.tmp 60) 0, type := 0, pos := "explorer.go:65", after := #[{ on := 2, ground := Go.Ground.data }], guard := none }, { dst := some 62, op := Go.Op.load 26 (Go.Operand.tmp 61), type := 26, pos := "explorer.go:65", after := #[{ on := 3, ground := Go.Ground.data }], guard := none }, { dst := some 63, op := Go.Op.load 99 (Go.Operand.tmp 2), type := 99, pos := "explorer.go:65", after := #[], guard := none }, { dst := some 64, op := Go.Op.nilCheck (Go.Operand.tmp 63), type := 0, pos := "explorer.go:65", after := #[{ on := 5, ground := Go.Ground.data }], guard := none }, { dst := some 65, op := Go.Op.fieldAddr 49 (Go.Operand.tmp 64) 0, type := 0, pos := "explorer.go:65", after := #[{ on := 6, ground := Go.Ground.data }], guard := none }, { dst := some 66, op := Go.Op.fieldAddr 26 (Go.Operand.tmp 65) 2, type := 0, pos := "explorer.go:65", after := #[{ on := 7, ground := Go.Ground.data }], guard := none }, { dst := some 67, op := Go.Op.load 23 (Go.Operand.tmp 66), type := 23, pos := "explorer.go:65", after := #[{ on := 8, ground := Go.Ground.data }], guard := none }, { dst := some 68, op := Go.Op.move (Go.Operand.tmp 6), type := 24, pos := "explorer.go:65", after := #[], guard := none }, { dst := some 69, op := Go.Op.call { callee := Go.Callee.value (Go.Operand.func 39), args := #[Go.Operand.tmp 62, Go.Operand.tmp 67, Go.Operand.tmp 68], argTypes := #[26, 23, 24] }, type := 24, pos := "explorer.go:65", after := #[{ on := 4, ground := Go.Ground.data }, { on := 9, ground := Go.Ground.data }, { on := 10, ground := Go.Ground.data }], guard := none }, { dst := some 70, op := Go.Op.load 3 (Go.Operand.tmp 4), type := 3, pos := "explorer.go:65", after := #[], guard := none }, { dst := some 71, op := Go.Op.binOp Go.BinOp.add 3 (Go.Operand.tmp 70) (Go.Operand.const (Go.Value.int Go.IntKind.i64 1)) 3, type := 3, pos := "explorer.go:65", after := #[{ on := 12, ground := Go.Ground.data }], guard := none }, { dst := some 72, op := Go.Op.call { callee := Go.Callee.value (Go.Operand.func 35), args := #[Go.Operand.tmp 58, Go.Operand.tmp 69, Go.Operand.tmp 71], argTypes := #[99, 24, 3] }, type := 0, pos := "explorer.go:65", after := #[{ on := 0, ground := Go.Ground.data }, { on := 11, ground := Go.Ground.data }, { on := 13, ground := Go.Ground.data }, { on := 11, ground := Go.Ground.chain }], guard := none }] true).wpIn (Fence.wide.inRound l) d Try.prog Q { tmps := #[t0, t1, .pointer (some ⟨b2, 0, none⟩), t3, .pointer (some ⟨b4, 0, none⟩), t5, .slice (some ⟨g, 0, none⟩) ns.length ns.length, t7, t8, t9, t10, t11, t12, t13, t14, t15, t16, t17, t18, t19, t20, t21, t22, t23, t24, t25, t26, t27, t28, t29, t30, t31, t32, t33, t34, t35, t36, t37, t38, t39, t40, t41, t42, t43, t44, t45, t46, t47, t48, t49, t50, t51, t52, t53, t54, t55, t56, t57, t58, t59, t60, t61, t62, t63, t64, t65, t66, t67, t68, t69, t70, t71, t72], defers := [] } wB := by
  have hcell : ∀ {u : World} {X2 : Nat → Prop} {nM2 : Nat} {va2 : Value} {M2 : List (Sg × Nat)} {rows2 : List Rw} {f2 : Fd}, Ex u X2 B S nM2 (.slice a0 ns.length c0) (.slice a1 is.length c1) (.slice a2 xs.length c2) (.slice a3 bs.length c3) (.slice a4 hs.length c4) va2 n M2 rows2 f2 → ∀ i v, (#[.slice a0 ns.length c0, .slice a1 is.length c1, .slice a2 xs.length c2, .slice a3 bs.length c3, .slice a4 hs.length c4] : Array Value)[i]? = some v → u.cell? ⟨B, i, none⟩ = some v := fun {u X2 nM2 va2 M2 rows2 f2} hx i v hi => by
    rw [Lib.cell_of_heap hx.bd]
    have hi5 : i < 5 := (Array.getElem?_eq_some_iff.1 hi).1
    match i, hi5 with
    | 0, _ => exact hi
    | 1, _ => exact hi
    | 2, _ => exact hi
    | 3, _ => exact hi
    | 4, _ => exact hi
  have hl80 := (check_zero hck).1.1
  have hps := (pairs_zero (check_zero hck).2.2.1).2.1
  have hbd : Below wB.heap.size wB wB.drew := (Below.refl _ wB).drew
  have hC := follow_new ⟨a0, c0, a1, is.length, c1, a2, xs.length, c2, a3, bs.length, c3, a4, hs.length, c4⟩ ns hl80 xs hlx (fun p hp => (pairE_zero (hps p hp)).2.1) V hV a2 (some ⟨g, 0, none⟩) c2 ns.length wB.drew (hMd.nd.later hbd) (hMd.px.later hbd) (irow_ints (hRow.later hbd))
  rw [hV] at hC
  have hrl : rows.length ≤ M.length := by
    have := congrArg List.length hrw
    simp at this
    omega
  generalize followL ns xs V = t at *
  refine reg9 hQo hQp t0 t1 t3 t5 (.slice (some ⟨g, 0, none⟩) ns.length ns.length) t7 t8 t9 t10 t11 t12 t13 t14 t15 t16 t17 t18 t19 t20 t21 t22 t23 t24 t25 t26 t27 t28 t29 t30 t31 t32 t33 t34 t35 t36 t37 t38 t39 t40 t41 t42 t43 t44 t45 t46 t47 t48 t49 t50 t51 t52 t53 t54 t55 t56 t57 t58 t59 t60 t61 t62 t63 t64 t65 t66 t67 t68 t69 t70 t71 t72 b2 b4 B k (by rw [IntWalk.i64_left, IntWalk.wrap64_in _ (by omega)]) a0 a1 a2 a3 a4 ns.length is.length xs.length bs.length hs.length c0 c1 c2 c3 c4 wB y0 y4 (hcell hE 0 _ rfl) (hcell hE 1 _ rfl) (hcell hE 2 _ rfl) (hcell hE 3 _ rfl) (hcell hE 4 _ rfl)
    (fun v w' => ∃ p cap, v = .slice p t.length cap ∧ NL wB.drew.heap.size w' p cap t ∧ Below wB.drew.heap.size wB.drew w') (fun v w' h => by obtain ⟨_, _, _, _, h⟩ := h; exact h)
    (fun v w' w'' => LvStep W Y B S (nM + 1) (.slice a0 ns.length c0) (.slice a1 is.length c1) (.slice a2 xs.length c2) (.slice a3 bs.length c3) (.slice a4 hs.length c4) n (meetE M t (k + 1)) bad q w'' ∧ Fz Y wB w'' (fun _ => False)) (hC.mono fun e w' h => ?c1) (fun v w' h => ?c2) (fun v w' w'' _ h => ?c3) (fun v w' w'' _ h => hQ _ _ h.1)
  case c1 =>
    obtain ⟨p, cap, e1, h⟩ := h
    exact ⟨_, e1, p, cap, rfl, h⟩
  case c2 =>
    obtain ⟨p, cap, rfl, hn, hb⟩ := h
    have hb' : Below wB.heap.size wB w' := bthen hbd hb
    have hE' := hE.later hb'
    have hr0 : (foundE M bad).r = M.length := rfl
    have hme := meet_any w' Y B S nM _ _ _ _ _ va n M rows (foundE M bad) hE' ⟨p, t, cap⟩ hfit hn.ints (fun a h0 e hy => by have h1 := hn.fr a e; have h2 := hE.xb _ hy; simp at h1; omega) (k + 1) (by omega) (by omega) (by omega) ⟨by rw [hr0]; omega, by rw [hr0]; omega⟩
    refine (show Calls Try.prog 35 #[.pointer (some ⟨B, 0, none⟩), .slice p t.length cap, .int .i64 ((k : Int) + 1)] w' _ from hme).mono fun e w'' ho => ?_
    obtain ⟨e1, X2, va2, hx, hfr⟩ := ho
    rw [found_meet] at hx
    have hz : Fz Y wB w'' X2 := (Fz.quiet hb').trans hfr.fz
    refine ⟨e1, ⟨X2, va2, _, hx, hF.trans hz, ahead_meet hrw hq ⟨p, t, cap⟩ (k + 1), fun r hr => ?_⟩, hz.less fun _ e => e.elim⟩
    split at hr
    · exact hcp r hr
    · rcases List.mem_append.1 hr with hr | hr
      · exact hcp r hr
      · obtain rfl : r = ⟨p, t, cap⟩ := by simpa using hr
        exact ⟨hn.lc, hn.cm⟩
  case c3 =>
    obtain ⟨⟨X2, va2, rows2, hx, _⟩, hz⟩ := h
    exact ⟨hz.cell y0 h2, hz.cell y4 h4, hcell hx 0 _ rfl, hcell hx 1 _ rfl, hcell hx 2 _ rfl, hcell hx 3 _ rfl, hcell hx 4 _ rfl⟩
end Go.Proofs.Ytfobcnhibhbbaaa.Xp
