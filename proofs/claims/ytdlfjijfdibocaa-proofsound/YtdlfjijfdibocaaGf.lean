/- Gates: a maker goes on from a graph. -/
import Derived.Test.YtdlfjijfdibocaaGeM
import Derived.Deep.DeepAppendWide
import Derived.Lib.SliceRun
namespace Go.Proofs.Ytdlfjijfdibocaa
open Go.RowKit Go.Maps Go.WideMaps
set_option maxRecDepth 100000

theorem info55 : (Try.prog.info? 36).map (fun i => (i.zero, i.size, i.bytes)) = some (some (.agg #[.int .i64 0, .int .i64 0]), 2, 16) := by kernel_rfl
theorem zero3 (w : World) : (zeroValue 3).run Try.prog w = .ok (.int .i64 0) w := by kernel_rfl
theorem run_makeMapS (n : Nat) (w : World) : (Instr.makeMap 105 (some (.int .i64 (n : Int)))).run Try.prog w = .ok (.map (some w.heap.size)) (w.alloc (.map #[] 0)) := by
  simp [Instr.makeMap]; rfl

/-- The cells of pairs. -/
def flat (ps : List (Int × Int)) : List Value := ps.flatMap (fun p => [.int .i64 p.1, .int .i64 p.2])
theorem flat_len (ps : List (Int × Int)) : (flat ps).length = ps.length * 2 := by
  unfold flat
  induction ps with
  | nil => rfl
  | cons a l ih => simp [List.flatMap_cons, ih]; omega
theorem flat_snoc (ps : List (Int × Int)) (a b : Int) : flat (ps ++ [(a, b)]) = flat ps ++ [.int .i64 a, .int .i64 b] := by simp [flat, List.flatMap_append]
theorem flat_get (ps : List (Int × Int)) (i : Nat) (h : i < ps.length) : (flat ps)[i * 2]? = some (.int .i64 ps[i].1) ∧ (flat ps)[i * 2 + 1]? = some (.int .i64 ps[i].2) := by
  induction ps generalizing i with
  | nil => simp at h
  | cons a l ih =>
    have e : flat (a :: l) = .int .i64 a.1 :: .int .i64 a.2 :: flat l := by simp [flat, List.flatMap_cons]
    rw [e]
    cases i with
    | zero => simp
    | succ i =>
      have := ih i (by simpa using h)
      rw [show (i + 1) * 2 = i * 2 + 1 + 1 from by omega]
      simpa using this
theorem flat_one (ps : List (Int × Int)) (j : Nat) (u : Value) (h : (flat ps)[j]? = some u) : ∃ i, ∃ (hi : i < ps.length), (j = i * 2 ∧ u = .int .i64 ps[i].1) ∨ (j = i * 2 + 1 ∧ u = .int .i64 ps[i].2) := by
  have hj : j < ps.length * 2 := by rw [← flat_len]; exact (List.getElem?_eq_some_iff.1 h).1
  have hi : j / 2 < ps.length := by omega
  have hg := flat_get ps (j / 2) hi
  refine ⟨j / 2, hi, ?_⟩
  rcases Nat.mod_two_eq_zero_or_one j with h0 | h0
  · left
    have e : j / 2 * 2 = j := by omega
    rw [e, h] at hg
    exact ⟨e.symm, by simpa using hg.1⟩
  · right
    have e : j / 2 * 2 + 1 = j := by omega
    rw [e, h] at hg
    exact ⟨e.symm, by simpa using hg.2⟩

theorem flat_cell (ps : List (Int × Int)) : ∀ u ∈ flat ps, u.oneCell' = true := by
  intro u hu
  obtain ⟨j, hj⟩ := List.mem_iff_getElem?.1 hu
  obtain ⟨i, hi, h | h⟩ := flat_one ps j u hj <;> (rw [h.2]; rfl)

theorem pairs_cells {w : World} {ps : List (Int × Int)} {ad : Addr} (h : PairsAt w (some ad) ps) : ∀ j u, (flat ps)[j]? = some u → w.cell? (ad.add j) = some u := by
  intro j u hj
  obtain ⟨i, hi, h1⟩ := flat_one ps j u hj
  obtain ⟨b, off, e, hc⟩ := h (by omega)
  cases e
  rw [Addr.add_lit]
  rcases h1 with ⟨rfl, rfl⟩ | ⟨rfl, rfl⟩
  · exact (hc i hi).1
  · exact (hc i hi).2

theorem owns_pairs {w : World} {base : Nat} {v : Value} {ps : List (Int × Int)} (h : w.ownsRow base 36 2 v ps.length (flat ps)) : ∃ p cap, v = .slice p ps.length cap ∧ PairsAt w p ps := by
  have h' := h
  obtain ⟨h1, h2⟩ := h
  rcases h2 with ⟨rfl, h0⟩ | ⟨g, cap, cur, rfl, hg, hh, hn, hm, hs, ht⟩
  · exact ⟨none, 0, by rw [h0], fun h => by omega⟩
  · refine ⟨_, cap, rfl, fun _ => ⟨g, 0, rfl, fun i hi => ?_⟩⟩
    rw [Nat.zero_add, h'.cellAt (i * 2) (by omega), h'.cellAt (i * 2 + 1) (by omega)]
    exact flat_get ps i hi

theorem owns_below {w w1 : World} {base e size n : Nat} {v : Value} {xs : List Value} (h : w.ownsRow base e size v n xs) (hb : Below w.heap.size w w1) : w1.ownsRow base e size v n xs := by
  obtain ⟨h1, h2⟩ := h
  refine ⟨h1, ?_⟩
  rcases h2 with h2 | ⟨g, cap, cur, rfl, hg, hh, hr⟩
  · exact .inl h2
  · exact .inr ⟨g, cap, cur, rfl, hg, by rw [hb.block g (Array.getElem?_eq_some_iff.1 hh).1]; exact hh, hr⟩

theorem map_below {w w1 : World} {P : Program} {k : TypeId} {R : Value → Option (DataW Unit × List MemPlace)} {b n : Nat} {D : DataW Unit} (h : w.ownsMap P k R b n D) (hb : Below w.heap.size w w1) : w1.ownsMap P k R b n D := by
  have hlt := h.lt
  obtain ⟨es, clock, hh, hr⟩ := h
  exact ⟨es, clock, by rw [hb.block b hlt]; exact hh, hr⟩

set_option maxHeartbeats 1000000 in
theorem clone_any (p : Option Addr) (cap : Nat) (ps : List (Int × Int)) (hl : ps.length ≤ 1000001) (w : World) (hP : PairsAt w p ps) :
    Calls Try.prog 69 #[.slice p ps.length cap] w fun e w' => ∃ v, e = .returned v ∧ w'.ownsRow w.heap.size 36 2 v ps.length (flat ps) ∧ Below w.heap.size w w' := by
  obtain ⟨i0, hi, hz0, hz1, hz2⟩ := info_parts info55
  have q22 : ∀ (w : World) (a : Option Addr) (n c n' c' : Nat), (binOp .eql 37 (.slice a n c) (.slice none n' c')).run Try.prog w = .ok (.bool a.isNone) w := fun w a n c n' c' => Lib.run_eql_slice_nil w _ _ a n c n' c' Try.underlying37
  cases p with
  | none =>
    have h0 : ps = [] := by
      cases ps with
      | nil => rfl
      | cons a t => obtain ⟨b, off, h, _⟩ := hP (by simp); cases h
    subst h0
    go_enter Try.func69, Try.ntmps69
    go_wp2
    go_ret
    exact ⟨_, rfl, World.ownsRow_nil _ _ _ _, Below.refl _ _⟩
  | some ad =>
    have HC := hide (pairs_cells hP)
    clear hP
    go_enter Try.func69, Try.ntmps69
    go_wp2_with (at_builtin; refine wpList_append_own_wide _ rfl _ _ 37 rfl w.heap.size 36 i0 (.agg #[.int .i64 0, .int .i64 0]) 2 16 Try.underlying37 hi hz0 hz1 hz2 rfl (by decide) _ _ _ rfl (World.ownsRow_made w #[] 0 (Nat.le_refl _) (Nat.zero_le _) rfl) ad ps.length cap (flat ps) rfl ?qc1 ?qc2 ?qc3 ?qc4 ?qc5 ?qc6 ?_)
    case qc1 => exact flat_len ps
    case qc2 => intro j u hj; exact Lib.cell?_alloc_some _ (HC.out j u hj)
    case qc3 => exact flat_cell ps
    case qc4 => unfold maxLen; omega
    case qc5 => omega
    case qc6 => simp
    intro v' w1 hown hgrow _
    go_wp2
    go_ret
    exact ⟨v', rfl, by simpa using hown, ((Below.refl _ w).alloc (Nat.le_refl _) _).grown hgrow (by simp) (by intro k hk; simp [Value.ownBlock] at hk; omega)⟩

end Go.Proofs.Ytdlfjijfdibocaa
