/- The plain texts of steps: what is gathered, in memory. -/
import Derived.Test.YtjhkecnnhddhbaaGreatDoorTh
import Derived.Laws.OwnMore
namespace Go.Proofs.YtjhkecnnhddhbaaGreatDoor
open Go.RowKit Go.Maps Go.WideMaps
set_option maxRecDepth 100000
set_option autoImplicit false

theorem blk_cell {w1 w2 : World} {a : Addr} {v : Value} (h : w1.cell? a = some v) (hb : w2.heap[a.block]? = w1.heap[a.block]?) : w2.cell? a = some v := by
  rw [World.cell?_of_block (w := w1) (a := a) hb]; exact h
/-- What is gathered so far, in block M, behind a world. -/
def Sc (w1 wr : World) (M : Nat) (V : Int) (L : List (List Int)) : Prop := ∃ v rs, numsOf rs = L ∧ Cm wr M M v V rs ∧ Below M w1 wr
theorem Sc.lt {w1 wr : World} {M : Nat} {V : Int} {L : List (List Int)} (h : Sc w1 wr M V L) : M < wr.heap.size := by
  obtain ⟨v, rs, _, hc, _⟩ := h
  exact World.block_lt_of_cell? _ _ hc.c1
theorem Sc.later {w1 wr w2 : World} {M : Nat} {V : Int} {L : List (List Int)} (h : Sc w1 wr M V L) (hb : Below wr.heap.size wr w2) : Sc w1 w2 M V L := by
  have hlt := h.lt
  obtain ⟨v, rs, hn, hc, hw⟩ := h
  exact ⟨v, rs, hn, hc.below hb, hw.trans (hb.mono (Nat.le_of_lt hlt))⟩
theorem Sc.bel {w1 wr : World} {M : Nat} {V : Int} {L : List (List Int)} (h : Sc w1 wr M V L) : Below M w1 wr := h.choose_spec.choose_spec.2.2
theorem Sc.cell {w1 wr : World} {M : Nat} {V : Int} {L : List (List Int)} (h : Sc w1 wr M V L) {q : Addr} {x : Value} (hq : w1.cell? q = some x) (hl : q.block < M) : wr.cell? q = some x :=
  blk_cell hq (h.bel.block _ hl)

/-- A list of lists is laid behind those of the maker's, wherever it lies then. -/
theorem add_rows {w w2 : World} {base M : Nat} {v v' : Value} {vars : Int} {rs rs2 : List Row} (hmk : Cm w base M v vars rs)
    (hr : InAt w rs2) (hrf : ∀ r ∈ rs2, ∀ a, r.at' = some a → a.block ≠ M ∧ v.ownBlock ≠ some a.block ∧ a.block < w.heap.size ∧ base ≤ a.block)
    (hg : w.grownBy w2 v.ownBlock) (hrow : w2.ownsRow base 25 1 v' (rs ++ rs2).length ((rs ++ rs2).map Row.v)) (hat : v'.ownBlock = v.ownBlock ∨ v'.ownBlock = some w.heap.size) :
    Cm (w2.setCell ⟨M, 1, none⟩ v') base M v' vars (rs ++ rs2) := by
  have hM := World.block_lt_of_cell? _ _ hmk.c1
  simp only at hM
  have hfar : ∀ k, k < w.heap.size → v.ownBlock ≠ some k → v'.ownBlock ≠ some k := fun k hk h e => by
    rcases hat with h2 | h2
    · exact h (h2 ▸ e)
    · rw [h2] at e; cases e; omega
  have hgM : v'.ownBlock ≠ some M := hfar M hM hmk.nv
  have k0 := hg.cell hmk.c0 (fun e => hmk.nv e.symm)
  have k1 := hg.cell hmk.c1 (fun e => hmk.nv e.symm)
  have kf : ∀ j x, w.cell? ⟨M, j, none⟩ = some x → w.frozen? ⟨M, j, none⟩ = false → w2.frozen? ⟨M, j, none⟩ = false := fun j x h1 h2 => by
    rw [grown_frozen hg h1 (fun e => hmk.nv e.symm)]
    exact h2
  have hsz2 : w.heap.size ≤ w2.heap.size := hg.size
  have hIn : ∀ q : Row, IntsAt w q.at' q.ns → (∀ a, q.at' = some a → a.block ≠ M ∧ v.ownBlock ≠ some a.block) → IntsAt (w2.setCell ⟨M, 1, none⟩ v') q.at' q.ns := fun q h1 h2 =>
    (h1.grownBy hg (fun a ha e => (h2 a ha).2 e.symm)).set _ _ (fun a ha => (h2 a ha).1)
  have hFar : ∀ q : Row, (∀ a, q.at' = some a → a.block ≠ M ∧ v.ownBlock ≠ some a.block ∧ a.block < w.heap.size ∧ base ≤ a.block) → ∀ a, q.at' = some a → a.block ≠ M ∧ v'.ownBlock ≠ some a.block ∧ a.block < w2.heap.size ∧ base ≤ a.block := fun q h a ha => by
    obtain ⟨h1, h2, h3, h5⟩ := h a ha
    exact ⟨h1, hfar _ h3 h2, by omega, h5⟩
  refine ⟨?_, ?_, ?_, ?_, ?_, ?_, hmk.hM, hgM, ?_⟩
  · rw [World.cell?_setCell_other w2 _ _ _ (by simp)]; exact k0
  · exact World.cell?_setCell_same w2 _ _ k1
  · rw [World.frozen?_setCell]; exact kf _ _ hmk.c0 hmk.f0
  · rw [World.frozen?_setCell]; exact kf _ _ hmk.c1 hmk.f1
  · exact owns_set hrow hgM
  · intro q hq
    rcases List.mem_append.1 hq with h | h
    · exact hIn q (hmk.inn q h) (fun a ha => ⟨(hmk.far q h a ha).1, (hmk.far q h a ha).2.1⟩)
    · exact hIn q (hr q h) (fun a ha => ⟨(hrf q h a ha).1, (hrf q h a ha).2.1⟩)
  · intro q hq a ha
    rw [show (w2.setCell ⟨M, 1, none⟩ v').heap.size = w2.heap.size by simp]
    rcases List.mem_append.1 hq with h | h
    · exact hFar q (hmk.far q h) a ha
    · exact hFar q (hrf q h) a ha

theorem run_append_nil {w : World} (base : Nat) (t ty e : TypeId) (i : TypeInfo) (size : Nat) (ht : Tryz.prog.underlying t = some (.slice e)) (hi : Tryz.prog.info? e = some i)
    (v : Value) (n c : Nat) (xs : List Value) (hown : w.ownsRow base e size v n xs) :
    (Builtin.append_ #[t, t] ty #[v, .slice none 0 c]).run Tryz.prog w = .ok v w := by
  rcases hown.2 with ⟨rfl, rfl⟩ | ⟨g, cap, cur, rfl, _, _, hnc, _⟩
  · simp [Builtin.append_, run_underlying ht, sizeOf, typeInfo, hi, Builtin.lenOf, Builtin.firstCells]
  · simp [Builtin.append_, run_underlying ht, sizeOf, typeInfo, hi, Builtin.lenOf, Builtin.firstCells, hnc, storeCells]
/-- What an append of some lists runs to, and what the store behind it leaves. -/
def Ap (w1 w5 : World) (M : Nat) (V : Int) (v : Value) (p : Option Addr) (n cap : Nat) (L : List (List Int)) : Prop :=
  ∃ p9 n9 c9 w9, (Builtin.append_ #[28, 28] 28 #[v, .slice p n cap]).run Tryz.prog w5 = .ok (.slice p9 n9 c9) w9 ∧ w9.cell? ⟨M, 1, none⟩ = some v ∧ w9.frozen? ⟨M, 1, none⟩ = false ∧ Sc w1 (w9.setCell ⟨M, 1, none⟩ (.slice p9 n9 c9)) M V L ∧ Below M w1 w9
theorem sc_rows {w1 w5 : World} {M : Nat} {V : Int} {p : Option Addr} {cap : Nat} {rs rs2 : List Row} {v : Value} (hc : Cm w5 M M v V rs) (hb : Below M w1 w5) (hl : rs.length + rs2.length ≤ 2000000000)
    (hp : RowsAt w5 p rs2) (hi : InAt w5 rs2) (hf : ∀ r ∈ rs2, ∀ a, r.at' = some a → a.block ≠ M ∧ v.ownBlock ≠ some a.block ∧ a.block < w5.heap.size ∧ M ≤ a.block) : Ap w1 w5 M V v p rs2.length cap (numsOf rs ++ numsOf rs2) := by
  obtain ⟨i0, hi0, hz0, hz1, hz2⟩ := info_parts infoR
  have hM := World.block_lt_of_cell? _ _ hc.c1
  simp only at hM
  have key : ∃ v9 w9, (Builtin.append_ #[28, 28] 28 #[v, .slice p rs2.length cap]).run Tryz.prog w5 = .ok v9 w9 ∧ w9.ownsRow M 25 1 v9 (rs ++ rs2).length ((rs ++ rs2).map Row.v) ∧ w5.grownBy w9 v.ownBlock ∧ (v9.ownBlock = v.ownBlock ∨ v9.ownBlock = some w5.heap.size) := by
    rw [List.length_append, List.map_append]
    cases p with
    | none =>
      have h0 : rs2 = [] := by
        cases rs2 with
        | nil => rfl
        | cons r t => obtain ⟨b, off, h, _⟩ := hp (by simp); cases h
      subst h0
      exact ⟨v, w5, run_append_nil M 28 28 25 i0 1 Tryz.underlying28 hi0 v rs.length cap _ hc.row, by simpa using hc.row, ⟨rfl, rfl, rfl, Nat.le_refl _, fun _ _ _ => rfl⟩, .inl rfl⟩
    | some ad =>
      obtain ⟨v9, w9, hr, ho, hg, _, hat⟩ := run_append_own_at (P := Tryz.prog) w5 M 28 28 25 i0 (.slice none 0 0) 1 24 Tryz.underlying28 hi0 hz0 hz1 hz2 rfl (by decide) v rs.length (rs.map Row.v) hc.row ad rs2.length cap (rs2.map Row.v) (by simp)
        (fun j u hj => by
          rw [List.getElem?_map] at hj
          cases hq : rs2[j]? with
          | none => rw [hq] at hj; cases hj
          | some r =>
            rw [hq] at hj
            obtain ⟨hjl, hje⟩ := List.getElem?_eq_some_iff.1 hq
            obtain ⟨b, off, e, hcs⟩ := hp (by omega)
            cases e
            have := hcs j hjl
            rw [hje] at this
            cases hj
            unfold Addr.add
            by_cases h0 : j = 0
            · subst h0; simpa using this
            · simpa [h0] using this)
        (fun u hu => by obtain ⟨r, _, rfl⟩ := List.mem_map.1 hu; rfl) (by unfold maxLen; omega) (by omega) (Nat.le_of_lt hM)
      exact ⟨v9, w9, hr, ho, hg, hat⟩
  obtain ⟨v9, w9, hr, ho, hg, hat⟩ := key
  obtain ⟨p9, c9, rfl, _⟩ := owns_rows ho
  have hbw : Below M w1 w9 := hb.grown hg (Nat.le_of_lt hM) (fun k hk => (hc.row.lt k hk).1)
  refine ⟨p9, _, c9, w9, hr, hg.cell hc.c1 (fun e => hc.nv e.symm), ?_, ⟨_, rs ++ rs2, by simp [numsOf], add_rows hc hi hf hg ho hat, Below.setCell (p := ⟨M, 1, none⟩) hbw (Nat.le_refl _) _⟩, hbw⟩
  rw [grown_frozen hg hc.c1 (fun e => hc.nv e.symm)]
  exact hc.f1
/-- What a call gave back, new, laid behind. -/
theorem sc_new {w1 wr w5 : World} {M : Nat} {V : Int} {L2 : List (List Int)} {rs : List Row} {v : Value} {e : Ending} (hc : Cm wr M M v V rs) (hb : Below M w1 wr) (hl : rs.length + L2.length ≤ 2000000000) (h : NewRows wr L2 e w5) :
    ∃ p n cap, e = .returned (.slice p n cap) ∧ Cm w5 M M v V rs ∧ Below wr.heap.size wr w5 ∧ Ap w1 w5 M V v p n cap (numsOf rs ++ L2) := by
  have hM := World.block_lt_of_cell? _ _ hc.c1
  simp only at hM
  obtain ⟨p, cap, rs2, he, hn, hp, hi, hf, hpf, hb5⟩ := h
  have hc5 := hc.below hb5
  have hl2 : rs2.length = L2.length := by rw [← hn, List.length_map]
  have := sc_rows (w1 := w1) (cap := cap) hc5 (hb.trans (hb5.mono (Nat.le_of_lt hM))) (by omega) hp hi (fun r hr a ha => by
    have h1 := hf r hr a ha
    refine ⟨by omega, fun e => ?_, h1.2, by omega⟩
    have := (hc.row.lt _ e).2
    omega)
  rw [show numsOf rs2 = L2 from hn] at this
  exact ⟨p, rs2.length, cap, he, hc5, hb5, this⟩
end Go.Proofs.YtjhkecnnhddhbaaGreatDoor
