/- A map from numbers to lists: what is read of it, and what is put there. -/
import Derived.Test.YtjhkecnnhddhbaaGreatDoorBg
namespace Go.Proofs.YtjhkecnnhddhbaaGreatDoor.Ev
open Go.RowKit Go.Maps
set_option maxRecDepth 100000
set_option maxRecDepth 100000

/-- A list's place, as data. -/
def slD (b o n c : Nat) : DataW Unit := .agg [.lit (.int .i64 b), .lit (.int .i64 o), .lit (.int .i64 n), .lit (.int .i64 c)]
def slR : Value → Option (DataW Unit × List MemPlace)
  | .slice (some ⟨b, o, none⟩) n c => some (slD b o n c, [])
  | .slice none 0 0 => some (.nil, [])
  | _ => none
theorem slR_some (b o n c : Nat) : slR (.slice (some ⟨b, o, none⟩) n c) = some (slD b o n c, []) := rfl
theorem slR_nil : slR (.slice none 0 0) = some (.nil, []) := rfl
theorem slD_inj {b o n c b' o' n' c' : Nat} (h : slD b o n c = slD b' o' n' c') : b = b' ∧ o = o' ∧ n = n' ∧ c = c' := by
  unfold slD at h
  simp at h
  omega
theorem slR_inv {v : Value} {b o n c : Nat} {ps : List MemPlace} (h : slR v = some (slD b o n c, ps)) : v = .slice (some ⟨b, o, none⟩) n c := by
  unfold slR at h
  split at h
  · injection h with h
    obtain ⟨h1, _⟩ := Prod.mk.inj h
    obtain ⟨rfl, rfl, rfl, rfl⟩ := slD_inj h1
    rfl
  · injection h with h
    obtain ⟨h1, _⟩ := Prod.mk.inj h
    unfold slD at h1
    cases h1
  · cases h
theorem slR_inv_nil {v : Value} {ps : List MemPlace} (h : slR v = some (.nil, ps)) : v = .slice none 0 0 := by
  unfold slR at h
  split at h
  · injection h with h
    obtain ⟨h1, _⟩ := Prod.mk.inj h
    unfold slD at h1
    cases h1
  · rfl
  · cases h
theorem zero25 (w : World) : (zeroValue 25).run Tryz.prog w = .ok (.slice none 0 0) w := by kernel_rfl

theorem look70_yes {w : World} {M n : Nat} {D : DataW Unit} (h : w.ownsMap Tryz.prog 3 slR M n D) {x : Int} (hx : 0 ≤ x) (hx2 : x ≤ 1000) {b o m c : Nat} (hh : Maps.has D (.int .i64 x) = true) (ha : D.atKey (.int .i64 x) .nil = slD b o m c) :
    (Instr.lookup 110 (.map (some M)) (.int .i64 x) true).run Tryz.prog w = .ok (.tuple #[.slice (some ⟨b, o, none⟩) m c, .bool true]) w := by
  have hkey : keyOf Tryz.prog 3 (.int .i64 x) = some (.int .i64 x) := keyOf_int_mk Tryz.underlying3 (WalkArith.wf_i64 (by omega))
  obtain ⟨v, ps, h1, h2⟩ := World.ownsMap.look_ok h law3 Tryz.underlying110 (zero25 _) slR_nil hkey
  rw [ha] at h2
  rw [h1, hh, slR_inv h2]
theorem look70_no {w : World} {M n : Nat} {D : DataW Unit} (h : w.ownsMap Tryz.prog 3 slR M n D) {x : Int} (hx : 0 ≤ x) (hx2 : x ≤ 1000) (hh : Maps.has D (.int .i64 x) = false) (ha : D.atKey (.int .i64 x) .nil = .nil) :
    (Instr.lookup 110 (.map (some M)) (.int .i64 x) true).run Tryz.prog w = .ok (.tuple #[.slice none 0 0, .bool false]) w := by
  have hkey : keyOf Tryz.prog 3 (.int .i64 x) = some (.int .i64 x) := keyOf_int_mk Tryz.underlying3 (WalkArith.wf_i64 (by omega))
  obtain ⟨v, ps, h1, h2⟩ := World.ownsMap.look_ok h law3 Tryz.underlying110 (zero25 _) slR_nil hkey
  rw [ha] at h2
  rw [h1, hh, slR_inv_nil h2]
theorem put70 {w : World} {M n : Nat} {D : DataW Unit} (h : w.ownsMap Tryz.prog 3 slR M n D) (hn : n < 1000000) {x : Int} (hx : 0 ≤ x) (hx2 : x ≤ 1000) (b o m c : Nat) :
    ∃ w', (Instr.mapUpdate 110 (.map (some M)) (.int .i64 x) (.slice (some ⟨b, o, none⟩) m c)).run Tryz.prog w = .ok () w' ∧ w'.ownsMap Tryz.prog 3 slR M (n + 1) (D.put (.int .i64 x) (slD b o m c)) ∧ w.grownBy w' (some M) :=
  h.update law3 Tryz.underlying110 (by unfold maxLen; omega) (keyOf_int_mk Tryz.underlying3 (WalkArith.wf_i64 (by omega))) (slR_some b o m c)

end Go.Proofs.YtjhkecnnhddhbaaGreatDoor.Ev
