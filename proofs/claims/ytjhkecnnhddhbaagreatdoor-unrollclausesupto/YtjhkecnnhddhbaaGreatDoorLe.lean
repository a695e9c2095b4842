/- A searcher: places, levels. -/
import Derived.Test.YtjhkecnnhddhbaaGreatDoorLd
namespace Go.Proofs.YtjhkecnnhddhbaaGreatDoor.Sr
open Go.RowKit Go.Maps Go.Proofs.YtjhkecnnhddhbaaGreatDoor.Pf
set_option maxRecDepth 100000
set_option autoImplicit false

/-- What Place tells. -/
def PlOut (w : World) (st : List Int) (x : Int) (e : Ending) (w' : World) : Prop := ∃ c, e = .returned (.tuple #[.int .i64 c, .bool (decide (x ∈ st))]) ∧ (∀ i : Nat, st[i]? = some x → c = i) ∧ w' = w
set_option maxHeartbeats 1000000 in
theorem place_any {w : World} {X : Nat → Prop} {R nS nW : Nat} {B : Bd} (h : BdAt w X R nS nW B) (x : Int) (hx : Small x) :
    Calls Tryz.prog 220 #[.pointer (some ⟨R, 0, none⟩), .int .i64 x] w (PlOut w B.st x) := by
  obtain ⟨S, W, vc, vs, wk, cg, cc, wv, h⟩ := h
  obtain ⟨c, hl, hc⟩ := look103 h.so hx
  have c5 := h.c5
  have HC := hide hc
  clear h hc
  have HT : Hid (decide (x ∈ B.st) = decide (x ∈ B.st)) := rfl
  generalize hd : decide (x ∈ B.st) = t at hl
  have HD := hide hd
  clear hd HT
  go_enter Tryz.func220, Tryz.ntmps220
  go_wp2_with fail
  go_ret2
  exact ⟨c, by rw [HD.out]; rfl, HC.out, rfl⟩
/-- The level of the step by which a number came to be not so. -/
def lvOf (B : Bd) (n : Int) : Int := (B.sp.getD (B.st.idxOf (-n)) (0, 0, 0)).2.1
def lvMax (B : Bd) (l : List Int) : Int := l.foldl (fun m n => max m (lvOf B n)) 0
theorem BdAt.step {w : World} {X : Nat → Prop} {R nS nW : Nat} {B : Bd} (h : BdAt w X R nS nW B) {j : Nat} (hj : j < B.sp.length) : ∃ g cap, w.cell? ⟨R, 1, none⟩ = some (.slice (some ⟨g, 0, none⟩) B.sp.length cap) ∧ w.cell? ⟨g, j * 3, none⟩ = some (.int .i64 B.sp[j].1) ∧ w.cell? ⟨g, j * 3 + 1, none⟩ = some (.int .i64 B.sp[j].2.1) ∧ w.cell? ⟨g, j * 3 + 2, none⟩ = some (.int .i64 B.sp[j].2.2) := by
  obtain ⟨S, W, vc, vs, wk, cg, cc, wv, h⟩ := h
  have c1 := h.c1
  rcases h.st.2 with ⟨e, e0⟩ | ⟨g, cap, cur, e, _⟩
  · omega
  · subst e
    have hcell : ∀ d u, (flatS B.sp)[j * 3 + d]? = some u → w.cell? ⟨g, j * 3 + d, none⟩ = some u := fun d u hu => by
      rw [show (⟨g, j * 3 + d, none⟩ : Addr) = (⟨g, 0, none⟩ : Addr).add (j * 3 + d) by rw [Addr.add_lit, Nat.zero_add]]
      exact h.st.cells (g := g) rfl _ _ hu
    exact ⟨g, cap, c1, hcell 0 _ (flatS_at hj).1, hcell 1 _ (flatS_at hj).2.1, hcell 2 _ (flatS_at hj).2.2⟩
set_option maxHeartbeats 4000000 in
theorem levelOf_s (base : Nat) (w : World) (s : Nat) (XB XQ : Nat → Prop) (R nS nW q gp gw gm gl : Nat) (vh vl vp : Value) (S : Sx) (h : Ser base w s XB XQ R nS nW q gp gw gm gl vh vl vp S) (p : Option Addr) (cap : Nat) (l : List Int) (hp : IntsAt w p l) (hl : l.length ≤ 1000000) (hin : ∀ x ∈ l, Small x ∧ -x ∈ S.B.st) :
    Calls Tryz.prog 200 #[.pointer (some ⟨s, 0, none⟩), .slice p l.length cap] w fun e w' => e = .returned (.int .i64 (lvMax S.B l)) ∧ Below w.heap.size w w' := by
  have HS := hide h
  have HP := hide hp
  have HIN := hide hin
  clear h hp hin
  go_enter Tryz.func200, Tryz.ntmps200
  go_wp2_with fail
  go_loopw [5, 12] (fun lx t wr => ∃ j : Nat, j ≤ l.length ∧ t = .int .i64 j ∧ lx = .int .i64 (lvMax S.B (l.take j)) ∧ Hid (Below w.heap.size w wr)) (fun _ t _ => l.length - (intOf t).toNat)
  case atStart => exact ⟨0, Nat.zero_le _, rfl, rfl, Below.refl _ _⟩
  case round =>
    obtain ⟨j, hj, rfl, rfl, HB⟩ := hrel
    by_cases hlt : j < l.length
    · have hlti : (j : Int) < (l.length : Int) := by omega
      have e7 : (0 : Int) ≤ (j : Int) := by omega
      obtain ⟨b, off, hpe, hcl⟩ := (HP.out.later HB.out) (by omega)
      subst hpe
      have x0 := hcl j hlt
      obtain ⟨x, hx⟩ : ∃ x, l[j] = x := ⟨_, rfl⟩
      rw [hx] at x0
      obtain ⟨hsm, hmem⟩ := HIN.out x (hx ▸ List.getElem_mem hlt)
      have hx1 := hsm.1
      have hx2 := hsm.2
      have w1 := wrap_in (-x) (by omega) (by omega)
      have HSR := hide (HS.out.later HB.out)
      have s0 := HSR.out.s0
      have HPL := hide (place_any HSR.out.bd (-x) hsm.neg)
      have HMM := hide (decide_eq_true hmem)
      have hi : S.B.st.idxOf (-x) < S.B.st.length := List.idxOf_lt_length_of_mem hmem
      have his : S.B.st.idxOf (-x) < S.B.sp.length := by rw [st_len] at hi; exact hi
      obtain ⟨g, cp, c1, q0, q1, q2⟩ := BdAt.step HSR.out.bd his
      have HNX : Hid (lvMax S.B (l.take (j + 1)) = max (lvMax S.B (l.take j)) (S.B.sp[S.B.st.idxOf (-x)].2.1)) := by
        unfold Hid lvMax
        rw [List.take_succ_eq_append_getElem hlt, List.foldl_append, hx]
        simp only [List.foldl_cons, List.foldl_nil]
        unfold lvOf
        rw [List.getD_eq_getElem?_getD, List.getElem?_eq_getElem his]
        rfl
      have HIX : Hid (∀ c : Int, (∀ i : Nat, S.B.st[i]? = some (-x) → c = i) → c = (S.B.st.idxOf (-x) : Int)) := fun c hc => hc _ (by rw [List.getElem?_eq_getElem hi, List.getElem_idxOf])
      generalize S.B.sp[S.B.st.idxOf (-x)].2.1 = lv at *
      generalize S.B.sp[S.B.st.idxOf (-x)].1 = z1 at *
      generalize S.B.sp[S.B.st.idxOf (-x)].2.2 = z2 at *
      generalize S.B.st.idxOf (-x) = ix at *
      have e1 : (ix : Int) < (S.B.sp.length : Int) := by omega
      have e2 : (0 : Int) ≤ (ix : Int) := by omega
      generalize lvMax S.B (l.take j) = lm at *
      clear hcl hmem hx hi
      go_wp2_with fail
      refine HPL.out.mono ?_
      rintro e w2 ⟨c, rfl, hc, rfl⟩
      rw [HMM.out]
      obtain rfl := HIX.out c hc
      clear hc HIX HPL
      go_wp2_with fail
      go_roundw
      case rel => exact ⟨j + 1, hlt, by go_num, by rw [HNX.out], HB⟩
      case measure => simp [intOf]; omega
    · have hlti : ¬ (j : Int) < (l.length : Int) := by omega
      have HJ : Hid (l.take j = l) := List.take_of_length_le (by omega)
      rw [HJ.out] at *
      clear hlt
      go_wp2
      go_ret
      exact ⟨rfl, HB.out⟩
end Go.Proofs.YtjhkecnnhddhbaaGreatDoor.Sr
