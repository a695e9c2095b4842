/- Clauses of gates: Of. -/
import Derived.Test.YtjhkecnnhddhbaaGreatDoorCc
namespace Go.Proofs.YtjhkecnnhddhbaaGreatDoor
open Go.RowKit Go.Maps Go.WideMaps
set_option maxRecDepth 100000
set_option maxRecDepth 100000
set_option maxRecDepth 100000

theorem andsC_len (ins : Int) (ps : List (Int × Int)) (k : Nat) (h : k ≤ ps.length) : (andsC ins ps k).length = 3 * k := by
  induction k with
  | zero => rfl
  | succ k ih => rw [andsC_succ (by omega), List.length_append, ih (by omega)]; simp [andC]; omega
theorem rootC_len (x : Int) : (rootC x).length = if x = 1 then 0 else 1 := by
  unfold rootC
  split
  · rfl
  · split <;> rfl
/-- The clauses of the first roots. -/
def rootsC (rs : List Int) (k : Nat) : List (List Int) := (rs.take k).flatMap rootC
theorem rootsC_succ (rs : List Int) (k : Nat) (h : k < rs.length) : rootsC rs (k + 1) = rootsC rs k ++ rootC rs[k] := by
  unfold rootsC
  rw [List.take_succ_eq_append_getElem h, List.flatMap_append]
  simp
theorem rootsC_len (rs : List Int) (k : Nat) (h : k ≤ rs.length) : (rootsC rs k).length = cntR rs k := by
  induction k with
  | zero => simp [rootsC, cntR]
  | succ k ih =>
    rw [rootsC_succ rs k (by omega), List.length_append, ih (by omega), rootC_len]
    show _ = cntR rs k + (if rs.getD k 1 = 1 then 0 else 1)
    simp [List.getD, List.getElem?_eq_getElem (show k < rs.length by omega)]
theorem cntR_mono (rs : List Int) {k n : Nat} (h : k ≤ n) : cntR rs k ≤ cntR rs n := by
  induction n with
  | zero => obtain rfl : k = 0 := by omega
            exact Nat.le_refl _
  | succ n ih =>
    by_cases e : k = n + 1
    · subst e; exact Nat.le_refl _
    · have := ih (by omega)
      have h2 : cntR rs (n + 1) = cntR rs n + (if rs.getD n 1 = 1 then 0 else 1) := rfl
      rw [h2]
      omega
theorem cnfC_all (ins : Int) (ps : List (Int × Int)) (rs : List Int) : cnfC ins ps rs = andsC ins ps ps.length ++ rootsC rs rs.length := by
  unfold cnfC rootsC
  rw [List.take_length]

/-- What Of says. -/
def ofE (ins : Int) (ps : List (Int × Int)) (rs : List Int) : Int :=
  if chkE ins ps ≠ 0 then chkE ins ps else if rs.any (noLit (2 * (1 + ins + ps.length))) = true then 5 else fitE ins ps.length rs
def ofV (e x : Int) : Int := if e = 0 then x else 0
def ofL (e : Int) (L : List (List Int)) : List (List Int) := if e = 0 then L else []

/-- Clauses in memory. -/
structure ClAt (w : World) (p : Option Addr) (rs : List Row) : Prop where
  rows : RowsAt w p rs
  inn : InAt w rs
theorem ClAt.later {w w1 : World} {p : Option Addr} {rs : List Row} (h : ClAt w p rs) (hb : Below w.heap.size w w1) : ClAt w1 p rs := ⟨h.rows.later hb, h.inn.later hb⟩
theorem clAt_nil (w : World) : ClAt w none [] := ⟨fun h => by simp at h, fun r hr => by simp at hr⟩
abbrev cval (vars : Int) (p : Option Addr) (len cap : Nat) : Value := .agg #[.int .i64 vars, .slice p len cap]

/-- What Of leaves. -/
def OfOut (w' : World) (e : Ending) (ins : Int) (ps : List (Int × Int)) (rs : List Int) : Prop := ∃ pv cv rws,
  e = .returned (.tuple #[cval (ofV (ofE ins ps rs) (ins + ps.length)) pv rws.length cv, .int .i64 (ofE ins ps rs)]) ∧ numsOf rws = ofL (ofE ins ps rs) (cnfC ins ps rs) ∧ ClAt w' pv rws
theorem ofOut_no {w' : World} {ins : Int} {ps : List (Int × Int)} {rs : List Int} {e : Int} (he : ofE ins ps rs = e) (hne : e ≠ 0) : OfOut w' (.returned (.tuple #[cval 0 none 0 0, .int .i64 e])) ins ps rs := by
  subst he
  refine ⟨none, 0, [], ?_, ?_, clAt_nil _⟩
  · unfold ofV; rw [if_neg hne]; rfl
  · unfold ofL; rw [if_neg hne]; rfl
theorem ofOut_ok {w' : World} {ins : Int} {ps : List (Int × Int)} {rs : List Int} {pv : Option Addr} {cv : Nat} {rws : List Row} (he : ofE ins ps rs = 0) (hn : numsOf rws = cnfC ins ps rs) (h : ClAt w' pv rws) : OfOut w' (.returned (.tuple #[cval (ins + ps.length) pv rws.length cv, .int .i64 0])) ins ps rs := by
  unfold OfOut
  rw [he]
  exact ⟨pv, cv, rws, rfl, hn, h⟩
theorem fit_zero {ins : Int} {n : Nat} {rs : List Int} (h : fitE ins n rs = 0) : 3 * n + cntR rs rs.length ≤ 800000 ∧ ins + n ≤ 200000 := by
  unfold fitE at h
  split at h
  · cases h
  · split at h
    · cases h
    · omega

theorem clAt_set {w : World} {p : Option Addr} {rws : List Row} {B i : Nat} {u : Value} (h : ClAt w p rws) (h1 : ∀ a, p = some a → a.block ≠ B) (h2 : ∀ r ∈ rws, ∀ a, r.at' = some a → a.block ≠ B) : ClAt (w.setCell ⟨B, i, none⟩ u) p rws :=
  ⟨fun h0 => by
    obtain ⟨b, off, e, hc⟩ := h.rows h0
    exact ⟨b, off, e, fun j hj => cell_set_far (hc j hj) (h1 ⟨b, off, none⟩ e)⟩, fun r hr => (h.inn r hr).set _ _ (fun a ha => h2 r hr a ha)⟩

/-- The maker, at its beginning. -/
theorem cm_zero {w : World} {vars : Int} {M : Nat} (c0 : w.cell? ⟨M, 0, none⟩ = some (.int .i64 vars)) (c1 : w.cell? ⟨M, 1, none⟩ = some (.slice none 0 0)) (f0 : w.frozen? ⟨M, 0, none⟩ = false) (f1 : w.frozen? ⟨M, 1, none⟩ = false) : Cm w M M (.slice none 0 0) vars [] :=
  ⟨c0, c1, f0, f1, World.ownsRow_nil _ _ _ _, fun r hr => by simp at hr, Nat.le_refl _, by simp [Value.ownBlock], fun r hr => by simp at hr⟩

end Go.Proofs.YtjhkecnnhddhbaaGreatDoor
