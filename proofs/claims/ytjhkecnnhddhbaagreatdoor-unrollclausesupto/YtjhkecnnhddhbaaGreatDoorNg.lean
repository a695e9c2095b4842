/- The toggle's searches: the clauses of its steps, and what Solve says of them. -/
import Derived.Test.YtjhkecnnhddhbaaGreatDoorNf
import Derived.Test.YtjhkecnnhddhbaaGreatDoorKx
import Derived.Test.YtjhkecnnhddhbaaGreatDoorBp
namespace Go.Proofs.YtjhkecnnhddhbaaGreatDoor.Sr
open Go.RowKit Go.Maps Go.Proofs.YtjhkecnnhddhbaaGreatDoor.Pf
set_option maxRecDepth 100000
set_option autoImplicit false

/-- The toggle's circuit. -/
def tgC (pv : Option Addr) (cv : Nat) (pi : Option Addr) (ci : Nat) (pn : Option Addr) (cn : Nat) (pb : Option Addr) (cb : Nat) : Ci := ⟨1, pv, [], cv, 0, 1, ⟨pi, [0], ci⟩, ⟨pn, [3], cn⟩, ⟨pb, [2], cb⟩, ⟨none, [], 0⟩⟩
section
variable (pv : Option Addr) (cv : Nat) (pi : Option Addr) (ci : Nat) (pn : Option Addr) (cn : Nat) (pb : Option Addr) (cb : Nat)
theorem tgC_e : (tgC pv cv pi ci pn cn pb cb).e = 0 := by kernel_rfl
theorem tgC_f : (tgC pv cv pi ci pn cn pb cb).f = 1 := by kernel_rfl
theorem tgC_u0 : stepL (tgC pv cv pi ci pn cn pb cb) 0 true = u0 := by kernel_rfl
theorem tgC_u1 : stepL (tgC pv cv pi ci pn cn pb cb) 1 true = u1 := by kernel_rfl
theorem tgC_u2 : apartL (tgC pv cv pi ci pn cn pb cb) = u2 := by kernel_rfl
theorem tgC_e0 : unE (tgC pv cv pi ci pn cn pb cb) 0 true = 0 := by kernel_rfl
theorem tgC_e1 : unE (tgC pv cv pi ci pn cn pb cb) 1 true = 0 := by kernel_rfl
end
theorem tgC_in {w : World} {pv : Option Addr} {cv : Nat} {pi : Option Addr} {ci : Nat} {pn : Option Addr} {cn : Nat} {pb : Option Addr} {cb : Nat} (h1 : IntsAt w pi [0]) (h2 : IntsAt w pn [3]) (h3 : IntsAt w pb [2]) : CIn w (tgC pv cv pi ci pn cn pb cb) :=
  ⟨⟨fun h => by simp [tgC] at h, h1, h2, h3, fun h => by simp [tgC] at h⟩, by intro p hp; simp [tgC] at hp, by simp [tgC], by simp [tgC, Wf], by simp [tgC, Wf], by simp [tgC, maxLen], by simp [tgC, maxLen], by simp [tgC], by simp [tgC]⟩
theorem clU0 {w : World} {pv : Option Addr} {cv : Nat} {pi : Option Addr} {ci : Nat} {pn : Option Addr} {cn : Nat} {pb : Option Addr} {cb : Nat} (h : CIn w (tgC pv cv pi ci pn cn pb cb)) :
    Calls Tryz.prog 4 #[(tgC pv cv pi ci pn cn pb cb).v, .int .i64 0, .bool true] w (ClOut w 1 u0) :=
  (clausesU_any _ 0 true w h).mono fun e w' ⟨p, c, rs, h1, h2, h3, h4⟩ => by
    rw [tgC_e0] at h1 h2
    exact ⟨p, c, rs, h1, h3, h2.trans (tgC_u0 ..), h4⟩
theorem clU1 {w : World} {pv : Option Addr} {cv : Nat} {pi : Option Addr} {ci : Nat} {pn : Option Addr} {cn : Nat} {pb : Option Addr} {cb : Nat} (h : CIn w (tgC pv cv pi ci pn cn pb cb)) :
    Calls Tryz.prog 4 #[(tgC pv cv pi ci pn cn pb cb).v, .int .i64 1, .bool true] w (ClOut w 2 u1) :=
  (clausesU_any _ 1 true w h).mono fun e w' ⟨p, c, rs, h1, h2, h3, h4⟩ => by
    rw [tgC_e1] at h1 h2
    exact ⟨p, c, rs, h1, h3, h2.trans (tgC_u1 ..), h4⟩
theorem clU2 {w : World} {pv : Option Addr} {cv : Nat} {pi : Option Addr} {ci : Nat} {pn : Option Addr} {cn : Nat} {pb : Option Addr} {cb : Nat} (h : CIn w (tgC pv cv pi ci pn cn pb cb)) :
    Calls Tryz.prog 101 #[(tgC pv cv pi ci pn cn pb cb).v, .int .i64 1] w (ClOut w 3 u2) :=
  (clausesA_one _ rfl (tgC_e ..) (by rw [tgC_f]; decide) (by rw [tgC_u2]; decide) (by rw [tgC_u2]; decide) (by rw [tgC_u2, tgC_f]; kernel_rfl) w h).mono fun e w' ⟨p, c, rs, h1, h2, h3, h4⟩ => by
    exact ⟨p, c, rs, h1, h3, h2.trans (tgC_u2 ..), h4⟩
theorem rows_of {rs : List Row} {L : List (List Int)} {V : Int} (h : numsOf rs = L) (hL : ∀ c ∈ L, c.length ≤ 200 ∧ ∀ x ∈ c, Num V x) : ∀ r ∈ rs, r.ns.length ≤ 200 ∧ ∀ x ∈ r.ns, Num V x := fun r hr => hL r.ns (by rw [← h]; exact List.mem_map_of_mem hr)
theorem nums_ok {V : Int} {L : List (List Int)} (h : (L.all fun c => decide (c.length ≤ 200) && c.all fun x => decide (x ≠ 0 ∧ -V ≤ x ∧ x ≤ V)) = true) : ∀ c ∈ L, c.length ≤ 200 ∧ ∀ x ∈ c, Num V x := fun c hc => by
  have h1 := List.all_eq_true.1 h c hc
  simp only [Bool.and_eq_true, decide_eq_true_eq, List.all_eq_true] at h1
  exact ⟨h1.1, fun x hx => h1.2 x hx⟩
theorem solveU0 (p : Option Addr) (cap : Nat) (rs : List Row) (W : World) (hC : ClAt W p rs) (hn : numsOf rs = u0) : Calls Tryz.prog 129 #[.agg #[.int .i64 1, .slice p (List.length rs) cap], .int .i64 1000] W (SvOut W 2 (fun _ _ _ _ => True)) :=
  (solve_lost 1 (by decide) p cap rs (by rw [numsOf_lenE hn]; decide) (rows_of hn (nums_ok (by decide))) (by rw [hn]; kernel_rfl) 1000 (by decide) (fun B _ hs => lostU0 (by rw [hn] at hs; exact hs)) W hC).mono fun e w' ⟨q, c, h1, h2⟩ => ⟨_, _, _, _, _, _, h1, trivial, h2⟩
theorem solveU1 (p : Option Addr) (cap : Nat) (rs : List Row) (W : World) (hC : ClAt W p rs) (hn : numsOf rs = u1) : Calls Tryz.prog 129 #[.agg #[.int .i64 2, .slice p (List.length rs) cap], .int .i64 1000] W (SvOut W 1 (fun q n c w => n = 2 ∧ c = 2 ∧ BoolsAt w q [false, true])) :=
  (solve_s 2 (by decide) p cap rs (by rw [numsOf_lenE hn]; decide) (rows_of hn (nums_ok (by decide))) (by rw [hn]; kernel_rfl) 1000 (by decide) Sd' 0 (by decide) (fun B h _ hs => ⟨3, by rw [hn] at h hs ⊢; exact runU1 h hs⟩) W hC).mono fun e w' ⟨g, h1, h2, h3⟩ => by
    rw [valU1] at h2
    exact ⟨_, 2, 2, _, _, _, h1, ⟨rfl, rfl, h2⟩, h3⟩
theorem solveU2 (p : Option Addr) (cap : Nat) (rs : List Row) (W : World) (hC : ClAt W p rs) (hn : numsOf rs = u2) : Calls Tryz.prog 129 #[.agg #[.int .i64 3, .slice p (List.length rs) cap], .int .i64 125] W (SvOut W 1 (fun _ _ _ _ => True)) :=
  (solve_s 3 (by decide) p cap rs (by rw [numsOf_lenE hn]; decide) (rows_of hn (nums_ok (by decide))) (by rw [hn]; kernel_rfl) 125 (by decide) Se' 0 (by decide) (fun B h _ hs => ⟨4, by rw [hn] at h hs ⊢; exact runU2 h hs⟩) W hC).mono fun e w' ⟨g, h1, h2, h3⟩ => ⟨_, _, _, _, _, _, h1, trivial, h3⟩
end Go.Proofs.YtjhkecnnhddhbaaGreatDoor.Sr
