/- The plain texts of steps: tails of StepClauses, and what it leaves. -/
import Derived.Test.YtjhkecnnhddhbaaGreatDoorTk
namespace Go.Proofs.YtjhkecnnhddhbaaGreatDoor
open Go.RowKit Go.Maps Go.WideMaps
set_option maxRecDepth 100000
set_option autoImplicit false

/-- Does a code open with the region of a number? -/
def opensWith (n : Nat) : Code → Bool
  | .region m _ _ => m == n
  | .seq a _ => opensWith n a
  | _ => false
/-- The sequence within a code that opens with the region of a number. -/
def findSeq (n : Nat) : Code → Option Code
  | .seq a b => if opensWith n a then some (.seq a b) else match findSeq n a with | some c => some c | none => findSeq n b
  | .block _ b => findSeq n b
  | .cond _ t e => match findSeq n t with | some c => some c | none => findSeq n e
  | .loop b => findSeq n b
  | _ => none
noncomputable def seq7 (n : Nat) : Code := ((Tryz.f7.body).bind (findSeq n)).getD .skip

/-- What StepClauses leaves. -/
def StO (w : World) (V : Int) (L : List (List Int)) (e : Ending) (w' : World) : Prop :=
  ∃ pv cv rws, e = .returned (cval V pv (List.length rws) cv) ∧ numsOf rws = L ∧ ClAt w' pv rws ∧ Below w.heap.size w w' ∧ (∀ a, pv = some a → w.heap.size ≤ a.block) ∧ ∀ r ∈ rws, ∀ a, r.at' = some a → w.heap.size ≤ a.block
theorem stO_of {w w1 wc : World} {B G F M : Nat} {C : Ci} {last : Nat} {V : Int} {L : List (List Int)} (hx : Fx w w1 B G F M C last) (hs : Sc w1 wc M V L) :
    ∃ pz nz cz, wc.cell? ⟨M, 0, none⟩ = some (.int .i64 V) ∧ wc.cell? ⟨M, 1, none⟩ = some (.slice pz nz cz) ∧ wc.cell? ⟨G, 0, none⟩ = some (.int .i64 0) ∧ wc.cell? ⟨G, 1, none⟩ = some (.slice none 0 0) ∧
      wc.frozen? ⟨G, 0, none⟩ = false ∧ wc.frozen? ⟨G, 1, none⟩ = false ∧
      ((wc.setCell ⟨G, 0, none⟩ (.int .i64 V)).setCell ⟨G, 1, none⟩ (.slice pz nz cz)).heap[G]? = some (.cells #[.int .i64 V, .slice pz nz cz] 30) ∧
      StO w V L (.returned (.agg #[.int .i64 V, .slice pz nz cz])) ((wc.setCell ⟨G, 0, none⟩ (.int .i64 V)).setCell ⟨G, 1, none⟩ (.slice pz nz cz)) := by
  obtain ⟨v, rs, hn, hc, hb⟩ := hs
  obtain ⟨p, cap, rfl, hr⟩ := owns_rows hc.row
  have hG : wc.heap[G]? = some (.cells #[.int .i64 0, .slice none 0 0] 30) := (hb.block _ hx.hG).trans hx.g
  obtain ⟨⟨g0, g1, f0, f1⟩, gh⟩ := r30 hG
  have hGM := hx.hG
  have hpM : ∀ a, p = some a → M ≤ a.block := fun a ha => (hc.row.lt a.block (by subst ha; rfl)).1
  have hpG : ∀ a, p = some a → a.block ≠ G := fun a ha => by
    have := hpM a ha
    omega
  have hrG : ∀ r ∈ rs, ∀ a, r.at' = some a → a.block ≠ G := fun r h a ha => by
    have := (hc.far r h a ha).2.2.2
    omega
  refine ⟨p, rs.length, cap, hc.c0, hc.c1, g0, g1, f0, f1, gh _ _, p, cap, rs, rfl, hn, clAt_set (clAt_set ⟨hr, hc.inn⟩ hpG hrG) hpG hrG, ?_, fun a ha => Nat.le_trans hx.wM (hpM a ha), fun r h a ha => Nat.le_trans hx.wM (hc.far r h a ha).2.2.2⟩
  exact ((hx.b.trans (hb.mono hx.wM)).setCell (p := ⟨G, 0, none⟩) hx.wG _).setCell (p := ⟨G, 1, none⟩) hx.wG _
/-- How it begins, if that is asked for. -/
def begB (C : Ci) (begun : Bool) : List (List Int) := if begun = true then beginsT C else []
/-- How long some lists are at most. -/
theorem stepsL_le {f : Nat → List (List Int)} {c n : Nat} (h : ∀ k, k < n → (f k).length ≤ c) : (stepsL f n).length ≤ n * c := by
  induction n with
  | zero => simp [stepsL]
  | succ n ih =>
    rw [stepsL_succ, List.length_append, Nat.succ_mul]
    have := ih (fun k hk => h k (by omega))
    have := h n (by omega)
    omega
theorem rootC_le (x : Int) : (rootC x).length ≤ 1 := by
  unfold rootC
  split
  · simp
  · split <;> simp
theorem sameC_le (x y : Int) : (sameC x y).length ≤ 2 := by
  unfold sameC
  split
  · have := rootC_le x; omega
  · split
    · have := rootC_le (turn x); omega
    · simp
theorem mustP_le (x off : Int) : (mustP x off).length ≤ 1 := by
  unfold mustP
  split
  · simp
  · split <;> simp
theorem holdsT_le (C : Ci) (t : Nat) : (holdsT C t).length ≤ C.h.ns.length := by
  have := stepsL_le (f := holdC C t) (c := 1) (n := C.h.ns.length) (fun _ _ => rootC_le _)
  unfold holdsT
  omega
theorem holds_le (C : Ci) (t k : Nat) (ht : t ≤ 41) (hk : k ≤ C.h.ns.length) (hl : C.h.ns.length ≤ 2000000) : (stepsL (holdsT C) t).length + (stepsL (holdC C t) k).length ≤ 84000000 := by
  have h1 := stepsL_le (f := holdsT C) (c := 2000000) (n := t) (fun j _ => Nat.le_trans (holdsT_le C j) hl)
  have h2 := stepsL_le (f := holdC C t) (c := 1) (n := k) (fun _ _ => rootC_le _)
  omega
theorem bondsT_le (C : Ci) (t : Nat) : (bondsT C t).length ≤ C.n.ns.length * 2 := stepsL_le (f := bondC C t) (c := 2) (n := C.n.ns.length) (fun _ _ => sameC_le _ _)
theorem bonds_le (C : Ci) (t k : Nat) (ht : t ≤ 41) (hk : k ≤ C.n.ns.length) (hl : C.n.ns.length ≤ 1000) : (stepsL (bondsT C) t).length + (stepsL (bondC C t) k).length ≤ 84000 := by
  have h1 := stepsL_le (f := bondsT C) (c := 2000) (n := t) (fun j _ => Nat.le_trans (bondsT_le C j) (by omega))
  have h2 := stepsL_le (f := bondC C t) (c := 2) (n := k) (fun _ _ => sameC_le _ _)
  omega
theorem beginC_le (C : Ci) (k : Nat) : (beginC C k).length ≤ 2 := by
  unfold beginC
  split
  · simp
  · exact sameC_le _ _
theorem begins_le (C : Ci) (k : Nat) (hk : k ≤ 1000) : (stepsL (beginC C) k).length ≤ 2000 := by
  have h2 := stepsL_le (f := beginC C) (c := 2) (n := k) (fun k _ => beginC_le C k)
  omega
theorem ands_le (C : Ci) (t : Nat) (ht : t ≤ 41) (hl : C.ps.length ≤ 200000) : (stepsL (fun t => andsT C t C.ps.length) t).length ≤ 24600000 := by
  have h2 := stepsL_le (f := fun t => andsT C t C.ps.length) (c := 600000) (n := t) (fun k _ => by rw [andsT_len C k _ (Nat.le_refl _)]; omega)
  omega
theorem row_at {w : World} {p : Option Addr} {l : List Int} {bb bo k : Nat} (h : IntsAt w p l) (hk : k < l.length) (hp : p = some ⟨bb, bo, none⟩) : w.cell? ⟨bb, bo + k, none⟩ = some (.int .i64 l[k]) := by
  obtain ⟨b, o, e, hc⟩ := h (by omega)
  rw [hp] at e
  cases e
  exact hc k hk
theorem row_is {w : World} {p : Option Addr} {l : List Int} (h : IntsAt w p l) (hl : 0 < l.length) : ∃ bb bo, p = some ⟨bb, bo, none⟩ := by
  obtain ⟨b, o, e, _⟩ := h hl
  exact ⟨b, o, e⟩
end Go.Proofs.YtjhkecnnhddhbaaGreatDoor
