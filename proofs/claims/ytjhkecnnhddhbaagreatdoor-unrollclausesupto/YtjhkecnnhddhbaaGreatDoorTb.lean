/- The plain texts of steps: a clause is added. -/
import Derived.Test.YtjhkecnnhddhbaaGreatDoorTa
import Derived.Deep.RegionLaw
import Derived.Deep.AppendLies
namespace Go.Proofs.YtjhkecnnhddhbaaGreatDoor
open Go.RowKit Go.Maps Go.WideMaps
set_option maxRecDepth 100000
set_option autoImplicit false

/-- A list of lists is laid behind those of the maker's. -/
theorem add_many {w w2 : World} {base M g cap : Nat} {v : Value} {vars : Int} {rs rs2 : List Row} (hmk : Cm w base M v vars rs)
    (hr : InAt w rs2) (hrf : ∀ r ∈ rs2, ∀ a, r.at' = some a → a.block ≠ M ∧ v.ownBlock ≠ some a.block ∧ a.block < w.heap.size ∧ base ≤ a.block)
    (hg : w.grownBy w2 v.ownBlock) (hrow : w2.ownsRow base 25 1 (.slice (some ⟨g, 0, none⟩) (rs ++ rs2).length cap) (rs ++ rs2).length ((rs ++ rs2).map Row.v)) (hat : v.ownBlock = some g ∨ w.heap.size ≤ g) :
    Cm (w2.setCell ⟨M, 1, none⟩ (.slice (some ⟨g, 0, none⟩) (rs ++ rs2).length cap)) base M (.slice (some ⟨g, 0, none⟩) (rs ++ rs2).length cap) vars (rs ++ rs2) ∧
    Kp M w v (w2.setCell ⟨M, 1, none⟩ (.slice (some ⟨g, 0, none⟩) (rs ++ rs2).length cap)) (.slice (some ⟨g, 0, none⟩) (rs ++ rs2).length cap) := by
  have hM := World.block_lt_of_cell? _ _ hmk.c1
  simp only at hM
  have hgM : g ≠ M := by
    rcases hat with h | h
    · intro e; exact hmk.nv (by rw [h, e])
    · omega
  have k0 := hg.cell hmk.c0 (fun e => hmk.nv e.symm)
  have k1 := hg.cell hmk.c1 (fun e => hmk.nv e.symm)
  have kf : ∀ j x, w.cell? ⟨M, j, none⟩ = some x → w.frozen? ⟨M, j, none⟩ = false → w2.frozen? ⟨M, j, none⟩ = false := fun j x h1 h2 => by
    rw [grown_frozen hg h1 (fun e => hmk.nv e.symm)]
    exact h2
  have hsz2 : w.heap.size ≤ w2.heap.size := hg.size
  have hIn : ∀ q : Row, IntsAt w q.at' q.ns → (∀ a, q.at' = some a → a.block ≠ M ∧ v.ownBlock ≠ some a.block) → IntsAt (w2.setCell ⟨M, 1, none⟩ (.slice (some ⟨g, 0, none⟩) (rs ++ rs2).length cap)) q.at' q.ns := fun q h1 h2 =>
    (h1.grownBy hg (fun a ha e => (h2 a ha).2 e.symm)).set _ _ (fun a ha => (h2 a ha).1)
  have hFar : ∀ q : Row, (∀ a, q.at' = some a → a.block ≠ M ∧ v.ownBlock ≠ some a.block ∧ a.block < w.heap.size ∧ base ≤ a.block) → ∀ a, q.at' = some a → a.block ≠ M ∧ Value.ownBlock (.slice (some ⟨g, 0, none⟩) (rs ++ rs2).length cap) ≠ some a.block ∧ a.block < w2.heap.size ∧ base ≤ a.block := fun q h a ha => by
    obtain ⟨h1, h2, h3, h5⟩ := h a ha
    refine ⟨h1, ?_, by omega, h5⟩
    intro e
    have e' : g = a.block := by simpa [Value.ownBlock] using e
    rcases hat with h4 | h4
    · exact h2 (by rw [h4, e'])
    · omega
  refine ⟨⟨?_, ?_, ?_, ?_, ?_, ?_, hmk.hM, ?_, ?_⟩, ?_, ?_, ?_⟩
  · rw [World.cell?_setCell_other w2 _ _ _ (by simp)]; exact k0
  · exact World.cell?_setCell_same w2 _ _ k1
  · rw [World.frozen?_setCell]; exact kf _ _ hmk.c0 hmk.f0
  · rw [World.frozen?_setCell]; exact kf _ _ hmk.c1 hmk.f1
  · exact owns_set hrow (by simpa [Value.ownBlock] using hgM)
  · intro q hq
    rcases List.mem_append.1 hq with h | h
    · exact hIn q (hmk.inn q h) (fun a ha => ⟨(hmk.far q h a ha).1, (hmk.far q h a ha).2.1⟩)
    · exact hIn q (hr q h) (fun a ha => ⟨(hrf q h a ha).1, (hrf q h a ha).2.1⟩)
  · simpa [Value.ownBlock] using hgM
  · intro q hq a ha
    rw [show (w2.setCell ⟨M, 1, none⟩ (.slice (some ⟨g, 0, none⟩) (rs ++ rs2).length cap)).heap.size = w2.heap.size by simp]
    rcases List.mem_append.1 hq with h | h
    · exact hFar q (hmk.far q h) a ha
    · exact hFar q (hrf q h) a ha
  · simp; omega
  · intro q x hq h0 h1 h2
    refine ⟨?_, fun e => ?_⟩
    · rw [World.cell?_setCell_other w2 _ _ _ (fun e => h1 e.symm)]
      exact hg.cell hq (fun e => h2 e.symm)
    · have e' : g = q.block := by simpa [Value.ownBlock] using e
      have hlt := World.block_lt_of_cell? _ _ hq
      rcases hat with h | h
      · exact h2 (by rw [h, e'])
      · omega
  · intro k hk h1 h2
    refine ⟨?_, fun e => ?_⟩
    · rw [Below.heap_setCell _ _ _ _ h1, hg.block k hk (fun e => h2 e.symm)]
    · have e' : g = k := by simpa [Value.ownBlock] using e
      rcases hat with h | h
      · exact h2 (by rw [h, e'])
      · omega

set_option maxHeartbeats 4000000 in
theorem addP_any (base M : Nat) (v : Value) (vars : Int) (rs : List Row) (hrs : rs.length ≤ 1000000000) (l : List Int) (q : Option Addr) (qc : Nat) (w : World) (hbs : base ≤ w.heap.size) (hmk : Cm w base M v vars rs) (hI : IntsAt w q l) (hq : ∀ a, q = some a → a.block ≠ M ∧ v.ownBlock ≠ some a.block ∧ a.block < w.heap.size ∧ base ≤ a.block) :
    Calls Tryz.prog 23 #[.slice q l.length qc, .pointer (some ⟨M, 0, none⟩)] w fun e w' => e = .returned (.tuple #[]) ∧ ∃ v' r, r.ns = l ∧ Cm w' base M v' vars (rs ++ [r]) ∧ Below base w w' ∧ Kp M w v w' v' := by
  obtain ⟨i0, hi, hz0, hz1, hz2⟩ := info_parts infoR
  obtain ⟨pv, cv, rfl, _⟩ := owns_rows hmk.row
  have m1 := hmk.c1
  have f1 := hmk.f1
  have HMK := hide hmk
  have HI := hide hI
  have HQ := hide hq
  have HIN := hide (And.intro hi (And.intro hz0 (And.intro hz1 hz2)))
  have hlt0 := World.block_lt_of_cell? _ _ hmk.c1
  simp only at hlt0
  clear hI hmk hi hz0 hz1 hz2 hq
  go_enter Tryz.func23, Tryz.ntmps23
  go_wp2_with (at_builtin; refine wpList_append_lies _ rfl _ _ 28 rfl base 25 i0 (.slice none 0 0) 1 24 Tryz.underlying28 HIN.out.1 HIN.out.2.1 HIN.out.2.2.1 HIN.out.2.2.2 rfl (by decide) (.slice pv rs.length cv) rs.length (rs.map Row.v) rfl (HMK.out.row.alloc _) ⟨w.heap.size, 0, none⟩ 1 1 [(Row.mk q l qc).v] rfl rfl ?d0 ?d1 (by omega) ?d2 ?d3 ?d4 _ rfl ?_)
  case d0 => exact one_news ⟨q, l, qc⟩ w
  case d1 => exact one_cell ⟨q, l, qc⟩
  case d2 => unfold maxLen; omega
  case d3 => omega
  case d4 => simp; omega
  intro g cap w2 hown2 hg2 hat2 hlt2
  have g1 := hg2.cell (a := ⟨M, 1, none⟩) (past1 m1 _) (fun e => HMK.out.nv e.symm)
  have f2 : w2.frozen? ⟨M, 1, none⟩ = false := (grown_frozen hg2 (past1 m1 _) (fun e => HMK.out.nv e.symm)).trans (((bal (Below.refl _ _) _).frozen (World.block_lt_of_cell? _ _ m1)).trans f1)
  have hmem := add_memC (r := ⟨q, l, qc⟩) hbs HMK.out HI.out HQ.out hg2 hown2 (by simpa using hat2)
  have HMM := hide hmem
  clear hmem
  go_wp2
  go_end0
  exact ⟨rfl, _, _, rfl, HMM.out.1, HMM.out.2.1 _ (Below.refl _ _), HMM.out.2.2⟩
end Go.Proofs.YtjhkecnnhddhbaaGreatDoor
