/- A round of leave, its end: the next state is met. -/
import Derived.Test.YtfobcnhibhbbaaaGreatDoorYt
namespace Go.Proofs.YtfobcnhibhbbaaaGreatDoor.Ev.Xp
open Go.RowKit Go.Maps Go.WideMaps Go.WideShapes Go.Shelf
set_option maxRecDepth 100000

/-- What a round leaves that goes on to a state. -/
def LvStep (W : World) (Y : Nat → Prop) (B S nM : Nat) (v0 v1 v2 v3 v4 : Value) (n : Nat) (M : List (Sg × Nat)) (bad : Option Nat) (q : Nat) (w' : World) : Prop :=
  ∃ X2 va2 rows2, Ex w' X2 B S nM v0 v1 v2 v3 v4 va2 n M rows2 (foundE M bad) ∧ Fz Y W w' X2 ∧ rows2.map Rw.ns = (M.map (·.1)).drop q ∧ ∀ r ∈ rows2, r.ns.length ≤ r.cap ∧ r.cap ≤ maxLen
theorem lv_tail {l d : Nat} {Q : Exit → Act → World → Prop} (hQo : ¬ LetsOut Q) (hQp : ∀ c a w, ¬ Q (.panic c) a w) (t0 t1 t3 t5 t7 t8 t9 t10 t11 t12 t13 t14 t15 t16 t17 t18 t19 t20 t21 t22 t23 t24 t25 t26 t27 t28 t29 t30 t31 t32 t33 t34 t35 t36 t37 t38 t39 t40 t41 t42 t43 t44 t45 t46 t47 t48 t49 t50 t51 t52 t53 t54 t55 t56 t57 t58 t59 t60 t61 t62 t63 t64 t65 t66 t67 t68 t69 t70 t71 t72 : Value)
    (a0 a1 a2 a3 a4 : Option Addr) (c0 c1 c2 c3 c4 : Nat) (ns : List Nd) (is xs : List (Int × Int)) (bs hs : List Int) (hck : checkE ns is xs bs hs = 0) (hlx : xs.length ≤ 8796093022208)
    (b2 b4 g B S nM k q n : Nat) (Y : Nat → Prop) (W wB : World) (va : Value) (M : List (Sg × Nat)) (rows : List Rw) (bad : Option Nat) (V : List Int) (hV : V.length = ns.length) (hfit : Fits n (followL ns xs V))
    (hE : Ex wB Y B S nM (.slice a0 ns.length c0) (.slice a1 is.length c1) (.slice a2 xs.length c2) (.slice a3 bs.length c3) (.slice a4 hs.length c4) va n M rows (foundE M bad)) (hF : Fz Y W wB Y) (hrw : rows.map Rw.ns = (M.map (·.1)).drop q) (hcp : ∀ r ∈ rows, r.ns.length ≤ r.cap ∧ r.cap ≤ maxLen)
    (hMd : MdAt ⟨a0, c0, a1, is.length, c1, a2, xs.length, c2, a3, bs.length, c3, a4, hs.length, c4⟩ ns is xs bs hs wB) (hRow : IRow wB g V)
    (y0 : wB.cell? ⟨b2, 0, none⟩ = some (.pointer (some ⟨B, 0, none⟩))) (y4 : wB.cell? ⟨b4, 0, none⟩ = some (.int .i64 k)) (h2 : ¬ Y b2) (h4 : ¬ Y b4)
    (hk : k ≤ 2000) (hM : M.length ≤ 3000) (hnM : nM ≤ 200000000) (hq : q ≤ M.length)
    (hQ : ∀ a w', LvStep W Y B S (nM + 1) (.slice a0 ns.length c0) (.slice a1 is.length c1) (.slice a2 xs.length c2) (.slice a3 bs.length c3) (.slice a4 hs.length c4) n (meetE M (followL ns xs V) (k + 1)) bad q w' → Q .normal a w') :
    (Code.region 9 #[{ dst := some 58, op := Go.Op.load 111 (Go.Operand.tmp 2), type := 111, pos := "explorer.go:65", after := #[], guard := none }, { dst := some 59, op := Go.Op.load 111 (Go.Operand.tmp 2), type := 111, pos := "explorer.go:65", after := #[], guard := none }, { dst := some 60, op := Go.Op.nilCheck (Go.Operand.tmp 59), type := 0, pos := "explorer.go:65", after := #[{ on := 1, ground := Go.Ground.data }], guard := none }, { dst := some 61, op := Go.Op.fieldAddr 51 (Go.Operand.tmp 60) 0, type := 0, pos := "explorer.go:65", after := #[{ on := 2, ground := Go.Ground.data }], guard := none }, { dst := some 62, op := Go.Op.load 26 (Go.Operand.tmp 61), type := 26, pos := "explorer.go:65", after := #[{ on := 3, ground := Go.Ground.data }], guard := none }, { dst := some 63, op := Go.Op.load 111 (Go.Operand.tmp 2), type := 111, pos := "explorer.go:65", after := #[], guard := none }, { dst := some 64, op := Go.Op.nilCheck (Go.Operand.tmp 63), type := 0, pos := "explorer.go:65", after := #[{ on := 5, ground := Go.Ground.data }], guard := none }, { dst := some 65, op := Go.Op.fieldAddr 51 (Go.Operand.tmp 64) 0, type := 0, pos := "explorer.go:65", after := #[{ on := 6, ground := Go.Ground.data }], guard := none }, { dst := some 66, op := Go.Op.fieldAddr 26 (Go.Operand.tmp 65) 2, type := 0, pos := "explorer.go:65", after := #[{ on := 7, ground := Go.Ground.data }], guard := none }, { dst := some 67, op := Go.Op.load 23 (Go.Operand.tmp 66), type := 23, pos := "explorer.go:65", after := #[{ on := 8, ground := Go.Ground.data }], guard := none }, { dst := some 68, op := Go.Op.move (Go.Operand.tmp 6), type := 24, pos := "explorer.go:65", after := #[], guard := none }, { dst := some 69, op := Go.Op.call { callee := Go.Callee.value (Go.Operand.func 37), args := #[Go.Operand.tmp 62, Go.Operand.tmp 67, Go.Operand.tmp 68], argTypes := #[26, 23, 24] }, type := 24, pos := "explorer.go:65", after := #[{ on := 4, ground := Go.Ground.data }, { on := 9, ground := Go.Ground.data }, { on := 10, ground := Go.Ground.data }], guard := none }, { dst := some 70, op := Go.Op.load 3 (Go.Operand.tmp 4), type := 3, pos := "explorer.go:65", after := #[], guard := none }, { dst := some 71, op := Go.Op.binOp Go.BinOp.add 3 (Go.Operand.tmp 70) (Go.Operand.const (Go.Value.int Go.IntKind.i64 1)) 3, type := 3, pos := "explorer.go:65", after := #[{ on := 12, ground := Go.Ground.data }], guard := none }, { dst := some 72, op := Go.Op.call { callee := Go.Callee.value (Go.Operand.func 31), args := #[Go.Operand.tmp 58, Go.Operand.tmp 69, Go.Operand.tmp 71], argTypes := #[111, 24, 3] }, type := 0, pos := "explorer.go:65", after := #[{ on := 0, ground := Go.Ground.data }, { on := 11, ground := Go.Ground.data }, { on := 13, ground := Go.Ground.data }, { on := 11, ground := Go.Ground.chain }], guard := none }] true).wpIn (Fence.wide.inRound l) d Tryz.prog Q { tmps := #[t0, t1, .pointer (some ⟨b2, 0, none⟩), t3, .pointer (some ⟨b4, 0, none⟩), t5, .slice (some ⟨g, 0, none⟩) ns.length ns.length, t7, t8, t9, t10, t11, t12, t13, t14, t15, t16, t17, t18, t19, t20, t21, t22, t23, t24, t25, t26, t27, t28, t29, t30, t31, t32, t33, t34, t35, t36, t37, t38, t39, t40, t41, t42, t43, t44, t45, t46, t47, t48, t49, t50, t51, t52, t53, t54, t55, t56, t57, t58, t59, t60, t61, t62, t63, t64, t65, t66, t67, t68, t69, t70, t71, t72], defers := [] } wB := by
  have hcell : ∀ {u : World} {X2 : Nat → Prop} {nM2 : Nat} {va2 : Value} {M2 : List (Sg × Nat)} {rows2 : List Rw} {f2 : Fd}, Ex u X2 B S nM2 (.slice a0 ns.length c0) (.slice a1 is.length c1) (.slice a2 xs.length c2) (.slice a3 bs.length c3) (.slice a4 hs.length c4) va2 n M2 rows2 f2 → ∀ i v, (#[.slice a0 ns.length c0, .slice a1 is.length c1, .slice a2 xs.length c2, .slice a3 bs.length c3, .slice a4 hs.length c4] : Array Value)[i]? = some v → u.cell? ⟨B, i, none⟩ = some v := fun {u X2 nM2 va2 M2 rows2 f2} hx i v hi => by
    rw [Lib.cell_of_heap hx.bd]
    have hi5 : i < 5 := (Array.getElem?_eq_some_iff.1 hi).1
    match i, hi5 with
    | 0, _ => exact hi
    | 1, _ => exact hi
    | 2, _ => exact hi
    | 3, _ => exact hi
    | 4, _ => exact hi
  have hl80 := (check_zero hck).1.1
  have hps := (pairs_zero (check_zero hck).2.2.1).2.1
  have hbd : Below wB.heap.size wB wB.drew := (Below.refl _ wB).drew
  have hC := follow_new ⟨a0, c0, a1, is.length, c1, a2, xs.length, c2, a3, bs.length, c3, a4, hs.length, c4⟩ ns hl80 xs hlx (fun p hp => (pairE_zero (hps p hp)).2.1) V hV a2 (some ⟨g, 0, none⟩) c2 ns.length wB.drew (hMd.nd.later hbd) (hMd.px.later hbd) (irow_ints (hRow.later hbd))
  rw [hV] at hC
  have hrl : rows.length ≤ M.length := by
    have := congrArg List.length hrw
    simp at this
    omega
  generalize followL ns xs V = t at *
  refine reg9 hQo hQp t0 t1 t3 t5 (.slice (some ⟨g, 0, none⟩) ns.length ns.length) t7 t8 t9 t10 t11 t12 t13 t14 t15 t16 t17 t18 t19 t20 t21 t22 t23 t24 t25 t26 t27 t28 t29 t30 t31 t32 t33 t34 t35 t36 t37 t38 t39 t40 t41 t42 t43 t44 t45 t46 t47 t48 t49 t50 t51 t52 t53 t54 t55 t56 t57 t58 t59 t60 t61 t62 t63 t64 t65 t66 t67 t68 t69 t70 t71 t72 b2 b4 B k (by rw [IntWalk.i64_left, IntWalk.wrap64_in _ (by omega)]) a0 a1 a2 a3 a4 ns.length is.length xs.length bs.length hs.length c0 c1 c2 c3 c4 wB y0 y4 (hcell hE 0 _ rfl) (hcell hE 1 _ rfl) (hcell hE 2 _ rfl) (hcell hE 3 _ rfl) (hcell hE 4 _ rfl)
    (fun v w' => ∃ p cap, v = .slice p t.length cap ∧ NL wB.drew.heap.size w' p cap t ∧ Below wB.drew.heap.size wB.drew w') (fun v w' h => by obtain ⟨_, _, _, _, h⟩ := h; exact h)
    (fun v w' w'' => LvStep W Y B S (nM + 1) (.slice a0 ns.length c0) (.slice a1 is.length c1) (.slice a2 xs.length c2) (.slice a3 bs.length c3) (.slice a4 hs.length c4) n (meetE M t (k + 1)) bad q w'' ∧ Fz Y wB w'' (fun _ => False)) (hC.mono fun e w' h => ?c1) (fun v w' h => ?c2) (fun v w' w'' _ h => ?c3) (fun v w' w'' _ h => hQ _ _ h.1)
  case c1 =>
    obtain ⟨p, cap, e1, h⟩ := h
    exact ⟨_, e1, p, cap, rfl, h⟩
  case c2 =>
    obtain ⟨p, cap, rfl, hn, hb⟩ := h
    have hb' : Below wB.heap.size wB w' := bthen hbd hb
    have hE' := hE.later hb'
    have hr0 : (foundE M bad).r = M.length := rfl
    have hme := meet_any w' Y B S nM _ _ _ _ _ va n M rows (foundE M bad) hE' ⟨p, t, cap⟩ hfit hn.ints (fun a h0 e hy => by have h1 := hn.fr a e; have h2 := hE.xb _ hy; simp at h1; omega) (k + 1) (by omega) (by omega) (by omega) ⟨by rw [hr0]; omega, by rw [hr0]; omega⟩
    refine (show Calls Tryz.prog 31 #[.pointer (some ⟨B, 0, none⟩), .slice p t.length cap, .int .i64 ((k : Int) + 1)] w' _ from hme).mono fun e w'' ho => ?_
    obtain ⟨e1, X2, va2, hx, hfr⟩ := ho
    rw [found_meet] at hx
    have hz : Fz Y wB w'' X2 := (Fz.quiet hb').trans hfr.fz
    refine ⟨e1, ⟨X2, va2, _, hx, hF.trans hz, ahead_meet hrw hq ⟨p, t, cap⟩ (k + 1), fun r hr => ?_⟩, hz.less fun _ e => e.elim⟩
    split at hr
    · exact hcp r hr
    · rcases List.mem_append.1 hr with hr | hr
      · exact hcp r hr
      · obtain rfl : r = ⟨p, t, cap⟩ := by simpa using hr
        exact ⟨hn.lc, hn.cm⟩
  case c3 =>
    obtain ⟨⟨X2, va2, rows2, hx, _⟩, hz⟩ := h
    exact ⟨hz.cell y0 h2, hz.cell y4 h4, hcell hx 0 _ rfl, hcell hx 1 _ rfl, hcell hx 2 _ rfl, hcell hx 3 _ rfl, hcell hx 4 _ rfl⟩
end Go.Proofs.YtfobcnhibhbbaaaGreatDoor.Ev.Xp
