/- Gates: a maker goes on from a graph. -/
import Derived.Test.YtjhkecnnhddhbaaGreatDoorGeM
import Derived.Deep.DeepAppendWide
import Derived.Lib.SliceRun
import Derived.Deep.Onto
import Derived.Deep.RegionLaw
import Derived.Deep.AppendLies
namespace Go.Proofs.YtjhkecnnhddhbaaGreatDoor
open Go.RowKit Go.Maps Go.WideMaps
set_option maxRecDepth 100000
theorem info55 : (Tryz.prog.info? 75).map (fun i => (i.zero, i.size, i.bytes)) = some (some (.agg #[.int .i64 0, .int .i64 0]), 2, 16) := by kernel_rfl
theorem zero3 (w : World) : (zeroValue 3).run Tryz.prog w = .ok (.int .i64 0) w := by kernel_rfl
theorem run_makeMapS (n : Nat) (w : World) : (Instr.makeMap 113 (some (.int .i64 (n : Int)))).run Tryz.prog w = .ok (.map (some w.heap.size)) (w.alloc (.map #[] 0)) := by
 simp [Instr.makeMap]; rfl
def flat (ps : List (Int × Int)) : List Value := ps.flatMap (fun p => [.int .i64 p.1, .int .i64 p.2])
theorem flat_len (ps : List (Int × Int)) : (flat ps).length = ps.length * 2 := by
 unfold flat
 induction ps with
 | nil => rfl
 | cons a l ih => simp [List.flatMap_cons, ih]; omega
theorem flat_get (ps : List (Int × Int)) (i : Nat) (h : i < ps.length) : (flat ps)[i * 2]? = some (.int .i64 ps[i].1) ∧ (flat ps)[i * 2 + 1]? = some (.int .i64 ps[i].2) := by
 induction ps generalizing i with
 | nil => simp at h
 | cons a l ih =>
   have e : flat (a :: l) = .int .i64 a.1 :: .int .i64 a.2 :: flat l := by simp [flat, List.flatMap_cons]
   rw [e]
   cases i with
   | zero => simp
   | succ i =>
     have := ih i (by simpa using h)
     rw [show (i + 1) * 2 = i * 2 + 1 + 1 from by omega]
     simpa using this
theorem flat_one (ps : List (Int × Int)) (j : Nat) (u : Value) (h : (flat ps)[j]? = some u) : ∃ i, ∃ (hi : i < ps.length), (j = i * 2 ∧ u = .int .i64 ps[i].1) ∨ (j = i * 2 + 1 ∧ u = .int .i64 ps[i].2) := by
 have hj : j < ps.length * 2 := by rw [← flat_len]; exact (List.getElem?_eq_some_iff.1 h).1
 have hi : j / 2 < ps.length := by omega
 have hg := flat_get ps (j / 2) hi
 refine ⟨j / 2, hi, ?_⟩
 rcases Nat.mod_two_eq_zero_or_one j with h0 | h0
 · left
   have e : j / 2 * 2 = j := by omega
   rw [e, h] at hg
   exact ⟨e.symm, by simpa using hg.1⟩
 · right
   have e : j / 2 * 2 + 1 = j := by omega
   rw [e, h] at hg
   exact ⟨e.symm, by simpa using hg.2⟩
theorem flat_cell (ps : List (Int × Int)) : ∀ u ∈ flat ps, u.oneCell' = true := by
 intro u hu
 obtain ⟨j, hj⟩ := List.mem_iff_getElem?.1 hu
 obtain ⟨i, hi, h | h⟩ := flat_one ps j u hj <;> (rw [h.2]; rfl)
theorem pairs_cells {w : World} {ps : List (Int × Int)} {ad : Addr} (h : PairsAt w (some ad) ps) : ∀ j u, (flat ps)[j]? = some u → w.cell? (ad.add j) = some u := by
 intro j u hj
 obtain ⟨i, hi, h1⟩ := flat_one ps j u hj
 obtain ⟨b, off, e, hc⟩ := h (by omega)
 cases e
 rw [Addr.add_lit]
 rcases h1 with ⟨rfl, rfl⟩ | ⟨rfl, rfl⟩
 · exact (hc i hi).1
 · exact (hc i hi).2
theorem owns_pairs {w : World} {base : Nat} {v : Value} {ps : List (Int × Int)} (h : w.ownsRow base 75 2 v ps.length (flat ps)) : ∃ p cap, v = .slice p ps.length cap ∧ PairsAt w p ps := by
 have h' := h
 obtain ⟨h1, h2⟩ := h
 rcases h2 with ⟨rfl, h0⟩ | ⟨g, cap, cur, rfl, hg, hh, hn, hm, hs, ht⟩
 · exact ⟨none, 0, by rw [h0], fun h => by omega⟩
 · refine ⟨_, cap, rfl, fun _ => ⟨g, 0, rfl, fun i hi => ?_⟩⟩
   rw [Nat.zero_add, h'.cellAt (i * 2) (by omega), h'.cellAt (i * 2 + 1) (by omega)]
   exact flat_get ps i hi
theorem owns_below {w w1 : World} {base e size n : Nat} {v : Value} {xs : List Value} (h : w.ownsRow base e size v n xs) (hb : Below w.heap.size w w1) : w1.ownsRow base e size v n xs := by
 obtain ⟨h1, h2⟩ := h
 refine ⟨h1, ?_⟩
 rcases h2 with h2 | ⟨g, cap, cur, rfl, hg, hh, hr⟩
 · exact .inl h2
 · exact .inr ⟨g, cap, cur, rfl, hg, by rw [hb.block g (Array.getElem?_eq_some_iff.1 hh).1]; exact hh, hr⟩
theorem map_below {w w1 : World} {P : Program} {k : TypeId} {R : Value → Option (DataW Unit × List MemPlace)} {b n : Nat} {D : DataW Unit} (h : w.ownsMap P k R b n D) (hb : Below w.heap.size w w1) : w1.ownsMap P k R b n D := by
 have hlt := h.lt
 obtain ⟨es, clock, hh, hr⟩ := h
 exact ⟨es, clock, by rw [hb.block b hlt]; exact hh, hr⟩
set_option maxHeartbeats 1000000 in
theorem clone_any (p : Option Addr) (cap : Nat) (ps : List (Int × Int)) (hl : ps.length ≤ 1000001) (w : World) (hP : PairsAt w p ps) :
   Calls Tryz.prog 122 #[.slice p ps.length cap] w fun e w' => ∃ v, e = .returned v ∧ w'.ownsRow w.heap.size 75 2 v ps.length (flat ps) ∧ Below w.heap.size w w' := by
 obtain ⟨i0, hi, hz0, hz1, hz2⟩ := info_parts info55
 have q22 : ∀ (w : World) (a : Option Addr) (n c n' c' : Nat), (binOp .eql 22 (.slice a n c) (.slice none n' c')).run Tryz.prog w = .ok (.bool a.isNone) w := fun w a n c n' c' => Lib.run_eql_slice_nil w _ _ a n c n' c' Tryz.underlying22
 cases p with
 | none =>
   have h0 : ps = [] := by
     cases ps with
     | nil => rfl
     | cons a t => obtain ⟨b, off, h, _⟩ := hP (by simp); cases h
   subst h0
   go_enter Tryz.func122, Tryz.ntmps122
   go_wp2
   go_ret
   exact ⟨_, rfl, World.ownsRow_nil _ _ _ _, Below.refl _ _⟩
 | some ad =>
   have HC := hide (pairs_cells hP)
   clear hP
   go_enter Tryz.func122, Tryz.ntmps122
   go_wp2_with (at_builtin; refine wpList_append_own_wide _ rfl _ _ 22 rfl w.heap.size 75 i0 (.agg #[.int .i64 0, .int .i64 0]) 2 16 Tryz.underlying22 hi hz0 hz1 hz2 rfl (by decide) _ _ _ rfl (World.ownsRow_made w #[] 0 (Nat.le_refl _) (Nat.zero_le _) rfl) ad ps.length cap (flat ps) rfl ?qc1 ?qc2 ?qc3 ?qc4 ?qc5 ?qc6 ?_)
   case qc1 => exact flat_len ps
   case qc2 => intro j u hj; exact Lib.cell?_alloc_some _ (HC.out j u hj)
   case qc3 => exact flat_cell ps
   case qc4 => unfold maxLen; omega
   case qc5 => omega
   case qc6 => simp
   intro v' w1 hown hgrow _
   go_wp2
   go_ret
   exact ⟨v', rfl, by simpa using hown, ((Below.refl _ w).alloc (Nat.le_refl _) _).grown hgrow (by simp) (by intro k hk; simp [Value.ownBlock] at hk; omega)⟩
end Go.Proofs.YtjhkecnnhddhbaaGreatDoor

namespace Go.Proofs.YtjhkecnnhddhbaaGreatDoor
open Go.RowKit Go.Maps Go.WideMaps
set_option maxRecDepth 100000
theorem andAt_succ (ps : List (Int × Int)) (k : Nat) (h : k < ps.length) (x : Int × Int) : andAt ps (k + 1) x = if 0 ≤ andAt ps k x then andAt ps k x else if ps[k] = x then (k : Int) else -1 := by
 unfold andAt
 rw [List.take_succ_eq_append_getElem h, List.findIdx?_append]
 cases h1 : (ps.take k).findIdx? (· == x) with
 | some i => simp
 | none =>
   by_cases e : ps[k] = x
   · simp [e]; omega
   · simp [e]
structure MapIs (ins : Int) (ps : List (Int × Int)) (k : Nat) (D : DataW Unit) : Prop where
 has : ∀ a b, Wf a → Wf b → Maps.has D (keyL a b) = decide (0 ≤ andAt ps k (a, b))
 lit : dupN ps k = false → ∀ a b, Wf a → Wf b → 0 ≤ andAt ps k (a, b) → D.atKey (keyL a b) (.lit (.int .i64 0)) = .lit (.int .i64 (2 * (1 + ins + andAt ps k (a, b))))
 once : dupN ps k = false → Maps.size D = k
 twice : dupN ps k = true → Maps.size D < k
theorem andAt_zero (ps : List (Int × Int)) (x : Int × Int) : andAt ps 0 x = -1 := by simp [andAt]
theorem mapIs_zero (ins : Int) (ps : List (Int × Int)) : MapIs ins ps 0 (.map []) :=
 ⟨fun a b _ _ => by rw [andAt_zero]; rfl, fun _ a b _ _ h => by rw [andAt_zero] at h; omega, fun _ => rfl, fun h => by simp [dupN] at h⟩
theorem keyL_key (a b : Int) : WideAt.IsKeyLit (keyL a b) := trivial
theorem MapIs.step {ins : Int} {ps : List (Int × Int)} {k : Nat} {D : DataW Unit} (h : MapIs ins ps k D) (ht : Tidy D) (hk : k < ps.length) (hw : WfP ps) :
   MapIs ins ps (k + 1) (D.put (keyL ps[k].1 ps[k].2) (.lit (.int .i64 (2 * (1 + ins + k))))) := by
 have hwk := hw k hk
 have hsz : Maps.size D ≤ k := by
   cases e : dupN ps k
   · exact Nat.le_of_eq (h.once e)
   · exact Nat.le_of_lt (h.twice e)
 have hhas := h.has _ _ hwk.1 hwk.2
 have hge := fun x => andAt_ge ps k x
 have hpair : (ps[k].1, ps[k].2) = ps[k] := rfl
 refine ⟨fun a b ha hb => ?_, fun hd a b ha hb h0 => ?_, fun hd => ?_, fun hd => ?_⟩
 · rw [andAt_succ ps k hk]
   by_cases e : (ps[k].1, ps[k].2) = (a, b)
   · have e2 : keyL ps[k].1 ps[k].2 = keyL a b := (keyL_inj hwk.1 hwk.2 ha hb).2 e
     rw [e2, has_put_same ht.isMap (keyL_key a b)]
     rw [hpair] at e
     rw [if_pos e]
     split <;> simp <;> omega
   · have e2 : keyL a b ≠ keyL ps[k].1 ps[k].2 := fun he => e ((keyL_inj hwk.1 hwk.2 ha hb).1 he.symm)
     rw [has_put_other e2, h.has a b ha hb]
     rw [hpair] at e
     rw [if_neg e]
     have := hge (a, b)
     split <;> simp <;> omega
 · rw [dupN_succ hk, Bool.or_eq_false_iff] at hd
   have hd2 : andAt ps k ps[k] < 0 := by simpa using hd.2
   rw [andAt_succ ps k hk] at h0 ⊢
   by_cases e : (ps[k].1, ps[k].2) = (a, b)
   · have e2 : keyL ps[k].1 ps[k].2 = keyL a b := (keyL_inj hwk.1 hwk.2 ha hb).2 e
     rw [e2, atKey_put_same ht.isMap (keyL_key a b)]
     rw [hpair] at e
     rw [e] at hd2
     rw [if_neg (by omega), if_pos e]
   · have e2 : keyL a b ≠ keyL ps[k].1 ps[k].2 := fun he => e ((keyL_inj hwk.1 hwk.2 ha hb).1 he.symm)
     rw [hpair] at e
     rw [atKey_put_other e2]
     rw [if_neg e] at h0 ⊢
     split at h0
     · rename_i h1
       rw [if_pos h1]
       exact h.lit hd.1 a b ha hb h1
     · omega
 · rw [dupN_succ hk, Bool.or_eq_false_iff] at hd
   rw [size_put ht, hhas, if_neg (by simp only [hpair]; simpa using hd.2), h.once hd.1]
 · rw [dupN_succ hk, Bool.or_eq_true] at hd
   rw [size_put ht, hhas]
   rcases hd with hd | hd
   · have := h.twice hd
     split <;> omega
   · rw [if_pos (by simp only [hpair]; exact hd)]
     omega
structure Mk (w : World) (base M B : Nat) (v : Value) (ins : Int) (ps : List (Int × Int)) : Prop where
 c0 : w.cell? ⟨M, 0, none⟩ = some (.int .i64 ins)
 c1 : w.cell? ⟨M, 1, none⟩ = some v
 c2 : w.cell? ⟨M, 2, none⟩ = some (.map (some B))
 f1 : w.frozen? ⟨M, 1, none⟩ = false
 row : w.ownsRow base 75 2 v ps.length (flat ps)
 hM : base ≤ M
 hB : base ≤ B
 ne : M ≠ B
 nv : v.ownBlock ≠ some M
 nb : v.ownBlock ≠ some B
theorem grown_frozen {w w1 : World} {row : Option Nat} {a : Addr} {v : Value} (hg : w.grownBy w1 row) (h : w.cell? a = some v) (hne : some a.block ≠ row) : w1.frozen? a = w.frozen? a :=
 World.frozen?_of_block (w := w) (hg.block a.block (World.block_lt_of_cell? _ _ h) hne)
theorem Mk.grown {w w1 : World} {base M B : Nat} {v : Value} {ins : Int} {ps : List (Int × Int)} (h : Mk w base M B v ins ps) (hg : w.grownBy w1 (some B)) : Mk w1 base M B v ins ps :=
 ⟨hg.cell h.c0 (by simpa using h.ne), hg.cell h.c1 (by simpa using h.ne), hg.cell h.c2 (by simpa using h.ne), (grown_frozen hg h.c1 (by simpa using h.ne)).trans h.f1, h.row.kept hg (Or.inr h.nb), h.hM, h.hB, h.ne, h.nv, h.nb⟩
theorem Mk.below {w w1 : World} {base M B : Nat} {v : Value} {ins : Int} {ps : List (Int × Int)} (h : Mk w base M B v ins ps) (hb : Below w.heap.size w w1) : Mk w1 base M B v ins ps :=
 ⟨cell_later hb h.c0, cell_later hb h.c1, cell_later hb h.c2, by rw [hb.frozen (World.block_lt_of_cell? _ _ h.c1)]; exact h.f1, owns_below h.row hb, h.hM, h.hB, h.ne, h.nv, h.nb⟩
theorem wrap_id {x : Int} (h0 : -9223372036854775808 ≤ x) (h1 : x ≤ 9223372036854775807) : IntKind.i64.wrap x = x := by rw [IntKind.wrap_i64]; omega
structure Rdy (w W2 : World) (M B : Nat) (v : Value) (ins : Int) (ps : List (Int × Int)) (p : Option Addr) (cap : Nat) : Prop where
 mem : Mk W2 w.heap.size M B v ins ps
 own : W2.ownsMap Tryz.prog 75 (plainElem (H := Unit) Tryz.prog 3) B 0 (.map [])
 bel : Below w.heap.size w W2
 nB : w.heap.size ≠ B
 q0 : W2.cell? ⟨w.heap.size, 0, none⟩ = some (.int .i64 ins)
 q1 : W2.cell? ⟨w.heap.size, 1, none⟩ = some (.slice p ps.length cap)
theorem rdy_one {w w1 : World} {ins : Int} {ps : List (Int × Int)} {p pv : Option Addr} {cap cv : Nat} (hr : w1.ownsRow (w.alloc (.cells #[.int .i64 ins, .slice p ps.length cap] 24)).drew.heap.size 75 2 (.slice pv ps.length cv) ps.length (flat ps))
   (hb : Below (w.alloc (.cells #[.int .i64 ins, .slice p ps.length cap] 24)).drew.heap.size (w.alloc (.cells #[.int .i64 ins, .slice p ps.length cap] 24)).drew w1) :
   Rdy w ((w1.alloc (.map #[] 0)).alloc (.cells #[.int .i64 ins, .slice pv ps.length cv, .map (some w1.heap.size)] 115)) (w1.heap.size + 1) w1.heap.size (.slice pv ps.length cv) ins ps p cap := by
 have hs := hb.size
 simp at hs
 have hlt := hr.lt
 refine ⟨⟨by simp [go_sem], by simp [go_sem], by simp [go_sem], by simp [go_sem], ((hr.alloc _).alloc _).mono (by simp), by omega, by omega, by omega, fun e => ?_, fun e => ?_⟩, ?_, ?_, by omega, ?_, ?_⟩
 · have := (hlt _ e).2; omega
 · have := (hlt _ e).2; omega
 · exact (World.ownsMap_made w1 Tryz.prog 75 (plainElem Tryz.prog 3)).alloc _
 · exact bal (bal (bthen (bal (Below.refl _ _) _).drew hb) _) _
 · exact past1 (past1 (cell_later hb (by simp [go_sem])) _) _
 · exact past1 (past1 (cell_later hb (by simp [go_sem])) _) _
theorem rdy_two {w w1 : World} {ins : Int} {ps : List (Int × Int)} {p pv : Option Addr} {cap cv : Nat} (hr : w1.ownsRow ((w.alloc (.cells #[.int .i64 ins, .slice p ps.length cap] 24)).alloc (.map #[] 0)).drew.heap.size 75 2 (.slice pv ps.length cv) ps.length (flat ps))
   (hb : Below ((w.alloc (.cells #[.int .i64 ins, .slice p ps.length cap] 24)).alloc (.map #[] 0)).drew.heap.size ((w.alloc (.cells #[.int .i64 ins, .slice p ps.length cap] 24)).alloc (.map #[] 0)).drew w1) :
   Rdy w (w1.alloc (.cells #[.int .i64 ins, .slice pv ps.length cv, .map (some (w.heap.size + 1))] 115)) w1.heap.size (w.heap.size + 1) (.slice pv ps.length cv) ins ps p cap := by
 have hs := hb.size
 simp at hs
 have hlt := hr.lt
 simp at hlt
 refine ⟨⟨by simp [go_sem], by simp [go_sem], by simp [go_sem], by simp [go_sem], (hr.alloc _).mono (by simp; omega), by omega, by omega, by omega, fun e => ?_, fun e => ?_⟩, ?_, ?_, by omega, ?_, ?_⟩
 · have := (hlt _ e).2; omega
 · have := (hlt _ e).1; omega
 · have := (World.ownsMap_made (w.alloc (.cells #[.int .i64 ins, .slice p ps.length cap] 24)) Tryz.prog 75 (plainElem (H := Unit) Tryz.prog 3)).drew
   simp at this
   exact (map_below this hb).alloc _
 · exact bal (bthen (bal (bal (Below.refl _ _) _) _).drew hb) _
 · exact past1 (cell_later hb (by simp [go_sem])) _
 · exact past1 (cell_later hb (by simp [go_sem])) _
set_option maxRecDepth 100000 in
set_option maxHeartbeats 4000000 in
theorem from_any (ins : Int) (p : Option Addr) (cap : Nat) (ps : List (Int × Int)) (hwf : WfP ps) (hl : ps.length ≤ 1000000) (h0 : 0 ≤ ins) (h1 : ins ≤ 1000) (w : World) (hP : PairsAt w p ps) :
   Calls Tryz.prog 96 #[gval ins p ps.length cap] w fun e w' => ∃ M B v D, e = .returned (.tuple #[.pointer (some ⟨M, 0, none⟩), .bool (!dupN ps ps.length)]) ∧
     Mk w' w.heap.size M B v ins ps ∧ w'.ownsMap Tryz.prog 75 (plainElem Tryz.prog 3) B ps.length D ∧ MapIs ins ps ps.length D ∧ Below w.heap.size w w' := by
 have HWF := hide hwf
 have hmm := run_makeMapS
 have hB0 : Below w.heap.size w (w.alloc (.cells #[.int .i64 ins, .slice p ps.length cap] 24)) := bal (Below.refl _ _) _
 have HB0 := hide hB0
 have HP := hide hP
 have HCL : Hid (∀ w1, Below w.heap.size w w1 → Calls Tryz.prog 122 #[.slice p ps.length cap] w1 fun e w' => ∃ (pv : Option Addr) (cv : Nat), e = .returned (.slice pv ps.length cv) ∧ w'.ownsRow w1.heap.size 75 2 (.slice pv ps.length cv) ps.length (flat ps) ∧ Below w1.heap.size w1 w') :=
   fun w1 hb => (clone_any p cap ps (by omega) w1 (hP.later hb)).mono fun e w' ⟨v, he, ho, hb⟩ => by
     obtain ⟨pv, cv, rfl, _⟩ := owns_pairs ho
     exact ⟨pv, cv, he, ho, hb⟩
 clear hwf hP hB0
 go_enter Tryz.func96, Tryz.ntmps96
 go_wp2
 go_region_held3 (fun w' => w'.cell? ⟨w.heap.size, 0, none⟩ = some (.int .i64 ins) ∧ w'.cell? ⟨w.heap.size, 1, none⟩ = some (.slice p ps.length cap))
   (first | exact ⟨cell_later hb1 (by simp [go_sem]), cell_later hb1 (by simp [go_sem])⟩ | go_keep)
   ((go_at_call 122; refine (HCL.out _ (by first | exact HB0.out.drew | exact bal HB0.out.drew _)).mono ?_; rintro e w1 ⟨pv, cv, rfl, hrow, hb1⟩))
 all_goals first
   | (have FF := rdy_one hrow hb1
      clear hrow hb1 HB0 HCL hmm
      rename_i hHeld
      clear hHeld
      generalize (w1.alloc (.map #[] 0)).alloc (.cells #[.int .i64 ins, .slice pv ps.length cv, .map (some w1.heap.size)] 115) = W2 at *
      generalize w1.heap.size + 1 = M at *
      generalize w1.heap.size = B at *)
   | (have FF := rdy_two hrow hb1
      clear hrow hb1 HB0 HCL hmm
      rename_i hHeld
      clear hHeld
      generalize (w1.alloc (.cells #[.int .i64 ins, .slice pv ps.length cv, .map (some (w.heap.size + 1))] 115)) = W2 at *
      generalize w1.heap.size = M at *
      generalize w.heap.size + 1 = B at *)
 all_goals
   obtain ⟨hmem, hown, hbel, hnB, q0, q1⟩ := FF
   go_wp2
   go_loopw [22] (fun i wr => ∃ k : Nat, k ≤ ps.length ∧ i = .int .i64 k ∧ ∃ D : DataW Unit, wr.ownsMap Tryz.prog 75 (plainElem Tryz.prog 3) B k D ∧ Hid (MapIs ins ps k D) ∧ Hid (Mk wr w.heap.size M B (.slice pv ps.length cv) ins ps) ∧ Below w.heap.size w wr ∧ wr.cell? ⟨w.heap.size, 0, none⟩ = some (.int .i64 ins) ∧ wr.cell? ⟨w.heap.size, 1, none⟩ = some (.slice p ps.length cap)) (fun i _ => ps.length - (intOf i).toNat)
   case atStart => exact ⟨0, Nat.zero_le _, rfl, .map [], hown, mapIs_zero _ _, hmem, hbel, q0, q1⟩
   case round =>
     clear hmem hown hbel q0 q1
     obtain ⟨k, hk, rfl, D, hown, hmap, hmem, hbw, q0, q1⟩ := hrel
     have hBlt := hown.lt
     have m2 := hmem.out.c2
     by_cases hlt : k < ps.length
     · obtain ⟨b1, o1, rfl, hc1⟩ := (HP.out.later hbw) (by omega)
       obtain ⟨c0, c1⟩ := hc1 k hlt
       have hki : (k : Int) < (ps.length : Int) := by omega
       have hwk := HWF.out k hlt
       have hkey := key55 hwk.1 hwk.2
       have HST := hide (hmap.out.step (hown.tidy law55) hlt HWF.out)
       clear hc1 hwk
       generalize ps[k] = pr at *
       obtain ⟨x, y⟩ := pr
       simp only at *
       obtain ⟨w1, hrun, hown1, hg1⟩ := ((hown.alloc (.cells #[.int .i64 x, .int .i64 y] 75)).drew).update law55 Tryz.underlying113 (by unfold maxLen; omega) hkey (plainElem_int Tryz.underlying3 (WalkArith.wf_i64 (by omega) : (Lit.int .i64 (2 * (1 + ins + k))).wf = true))
       have HO1 := hide hown1
       have hM1 : Mk w1 w.heap.size M B (.slice pv ps.length cv) ins ps := (hmem.out.below (bal (Below.refl _ _) (.cells #[.int .i64 x, .int .i64 y] 75)).drew).grown hg1
       have HM1 := hide hM1
       have HBW : Hid (Below w.heap.size w w1) := (bal hbw _).drew.grown hg1 (by have := hbw.size; simp; omega) (fun j hj => by cases hj; exact hmem.out.hB)
       have q0' := hg1.cell (a := ⟨w.heap.size, 0, none⟩) (past1 q0 (.cells #[.int .i64 x, .int .i64 y] 75)) (by simpa using hnB)
       have q1' := hg1.cell (a := ⟨w.heap.size, 1, none⟩) (past1 q1 (.cells #[.int .i64 x, .int .i64 y] 75)) (by simpa using hnB)
       have m2' := hM1.c2
       have d0 := hg1.cell (a := ⟨wr.heap.size, 0, none⟩) (v := .int .i64 x) (by simp [go_sem]) (by simp; omega)
       have d1 := hg1.cell (a := ⟨wr.heap.size, 1, none⟩) (v := .int .i64 y) (by simp [go_sem]) (by simp; omega)
       have hw1 := wrap_id (x := 1 + ins) (by omega) (by omega)
       have hw2 := wrap_id (x := 1 + ins + k) (by omega) (by omega)
       clear hown1 hM1 hg1 hown hmap
       go_wp2
       go_region_held3 (fun w' => w'.cell? ⟨M, 2, none⟩ = some (.map (some B)) ∧ w'.cell? ⟨wr.heap.size, 0, none⟩ = some (.int .i64 x) ∧ w'.cell? ⟨wr.heap.size, 1, none⟩ = some (.int .i64 y) ∧ w'.cell? ⟨w.heap.size, 0, none⟩ = some (.int .i64 ins))
         (first | exact ⟨m2', d0, d1, q0'⟩ | go_keep)
         ((go_at_call 67; refine (literal_any _ (by omega) (by omega) _).mono ?_; rintro e w' ⟨rfl, rfl⟩))
       go_wp2
       go_roundw
       case rel => exact ⟨k + 1, by omega, by go_num, _, HO1.out, HST, HM1, HBW.out, q0', q1'⟩
       case measure => simp [intOf]; omega
     · obtain rfl : k = ps.length := by omega
       have hlen : ∀ n ty, (Builtin.len_ #[113] ty #[.map (some B)]).run Tryz.prog (wr.drewN n) = .ok (.int .i64 (Maps.size D)) (wr.drewN n) := fun n ty => World.ownsMap.len (w := wr.drewN n) hown Tryz.underlying113 ty
       have HON := hide hown
       have HD : Hid (((Maps.size D : Int) == (ps.length : Int)) = !dupN ps ps.length) := by
         cases e : dupN ps ps.length
         · rw [hmap.out.once e]; simp [Hid]
         · have := hmap.out.twice e
           simp [Hid]; omega
       clear hown hlt
       go_wp2
       go_quiet (fail)
       go_wp2
       go_ret2
       exact ⟨M, B, _, D, by rw [← HD.out]; rfl, hmem.out.below (bdn (Below.refl _ _) _), map_below HON.out (bdn (Below.refl _ _) _), hmap.out, bdn hbw _⟩
end Go.Proofs.YtjhkecnnhddhbaaGreatDoor

namespace Go.Proofs.YtjhkecnnhddhbaaGreatDoor
open Go.RowKit Go.Maps Go.WideMaps
set_option maxRecDepth 100000
def Checked (w w' : World) (ins : Int) (ps : List (Int × Int)) (v : Value) : Prop :=
 if chkE ins ps = 0 then ∃ M B u D, v = .pointer (some ⟨M, 0, none⟩) ∧ Mk w' w.heap.size M B u ins ps ∧ w'.ownsMap Tryz.prog 75 (plainElem (H := Unit) Tryz.prog 3) B ps.length D ∧ MapIs ins ps ps.length D
 else v = .pointer none
set_option maxRecDepth 100000 in
set_option maxHeartbeats 4000000 in
theorem checked_any (ins : Int) (p : Option Addr) (cap : Nat) (ps : List (Int × Int)) (hwf : WfP ps) (hl : ps.length ≤ 8796093022208) (w : World) (hP : PairsAt w p ps) :
   Calls Tryz.prog 84 #[gval ins p ps.length cap] w fun e w' => ∃ v, e = .returned (.tuple #[v, .int .i64 (chkE ins ps)]) ∧ Checked w w' ins ps v ∧ Below w.heap.size w w' := by
 have HWF := hide hwf
 have hB0 : Below w.heap.size w (w.alloc (.cells #[.int .i64 ins, .slice p ps.length cap] 24)) := bal (Below.refl _ _) _
 clear hwf
 have HNO : Hid (∀ w', chkE ins ps ≠ 0 → Checked w w' ins ps (.pointer none)) := fun w' h => by unfold Checked; rw [if_neg h]
 have HYE : Hid (∀ w', chkE ins ps = 0 → ∀ M B u D, Mk w' w.heap.size M B u ins ps → w'.ownsMap Tryz.prog 75 (plainElem (H := Unit) Tryz.prog 3) B ps.length D → MapIs ins ps ps.length D → Checked w w' ins ps (.pointer (some ⟨M, 0, none⟩))) :=
   fun w' h M B u D h1 h2 h3 => by unfold Checked; rw [if_pos h]; exact ⟨M, B, u, D, rfl, h1, h2, h3⟩
 cases hr : btw ins 0 1000
 · have HE := hide (chk_range (ps := ps) hr)
   have hr2 := btw_false.1 hr
   clear HYE hr
   by_cases hn : ins < 0
   · go_enter Tryz.func84, Tryz.ntmps84
     go_wp2
     go_ret2
     exact ⟨_, by rw [HE.out]; rfl, HNO.out _ (by rw [HE.out]; decide), hB0⟩
   · have hn2 : 1000 < ins := by omega
     clear hr2
     go_enter Tryz.func84, Tryz.ntmps84
     go_wp2
     go_ret2
     exact ⟨_, by rw [HE.out]; rfl, HNO.out _ (by rw [HE.out]; decide), hB0⟩
 have hr2 := btw_true.1 hr
 obtain ⟨hr3, hr4⟩ := hr2
 by_cases hm : 1000000 < ps.length
 · have HE := hide (chk_many hr hm)
   have hm2 : (1000000 : Int) < (ps.length : Int) := by omega
   clear HYE hr
   go_enter Tryz.func84, Tryz.ntmps84
   go_wp2
   go_ret2
   exact ⟨_, by rw [HE.out]; rfl, HNO.out _ (by rw [HE.out]; decide), hB0⟩
 have hm1 : ps.length ≤ 1000000 := by omega
 have HCS := hide (chk_state hr hm1)
 have HCT := hide (chk_twice hr hm1)
 have HCO := hide (chk_ok hr hm1)
 clear hr
 go_enter Tryz.func84, Tryz.ntmps84
 go_wp2
 go_loopw [23] (fun i wr => ∃ k : Nat, k ≤ ps.length ∧ i = .int .i64 k ∧ Hid (stN ins ps k = true) ∧ Below w.heap.size w wr ∧ wr.cell? ⟨w.heap.size, 0, none⟩ = some (.int .i64 ins) ∧ wr.cell? ⟨w.heap.size, 1, none⟩ = some (.slice p ps.length cap)) (fun i _ => ps.length - (intOf i).toNat)
 case atStart => exact ⟨0, Nat.zero_le _, rfl, rfl, hB0, by simp [go_sem], by simp [go_sem]⟩
 case round =>
   obtain ⟨k, hk, rfl, hst, hbw, q0, q1⟩ := hrel
   by_cases hlt : k < ps.length
   · obtain ⟨b1, o1, rfl, hc1⟩ := (hP.later hbw) (by omega)
     obtain ⟨c0, c1⟩ := hc1 k hlt
     have hki : (k : Int) < (ps.length : Int) := by omega
     have HS := hide (stN_succ (ins := ins) hlt)
     have hwk := HWF.out k hlt
     unfold Wf at hwk
     clear hc1
     generalize ps[k] = pr at *
     obtain ⟨x, y⟩ := pr
     simp only at *
     have HBad : Hid (standB x y (1 + ins + k) = false → chkE ins ps = 4) := by
       intro hs
       refine HCS.out ?_
       rw [Bool.eq_false_iff]
       intro hh
       have := stN_down (k := k + 1) hh (by omega)
       rw [HS.out, hs] at this
       simp at this
     have hal : Below wr.heap.size wr (wr.alloc (.cells #[.int .i64 x, .int .i64 y] 75)) := bal (Below.refl _ _) _
     have q0a := fun o => past1 q0 o
     have HCL := hide (fun w1 => stands_any x y (1 + ins + k) hwk.2.2 w1)
     cases hs : standB x y (1 + ins + k)
     · have HE := hide (HBad.out hs)
       rw [hs] at HCL
       clear HBad HS HCS HCT HCO HYE hst hs
       go_wp2_with fail
       refine (HCL.out _).mono ?_
       rintro e w1 ⟨rfl, hb1⟩
       have HB1 := hide (bthen (bthen hbw hal) hb1)
       clear hb1 hal
       go_wp2
       go_ret2
       exact ⟨_, by rw [HE.out]; rfl, HNO.out _ (by rw [HE.out]; decide), HB1.out⟩
     · have HG : Hid (stN ins ps (k + 1) = true) := by rw [HS.out, hst.out, hs]; rfl
       rw [hs] at HCL
       clear HBad HS HCS HCT HCO HYE hst hs
       go_wp2_with fail
       refine (HCL.out _).mono ?_
       rintro e w1 ⟨rfl, hb1⟩
       have HB1 := hide (bthen (bthen hbw hal) hb1)
       have q0' := cell_later (bthen hal hb1) q0
       have q1' := cell_later (bthen hal hb1) q1
       clear hb1 hal
       go_wp2
       go_roundw
       case rel => exact ⟨k + 1, by omega, by go_num, HG, HB1.out, q0', q1'⟩
       case measure => simp [intOf]; omega
   · obtain rfl : k = ps.length := by omega
     have HCT2 := hide (HCT.out hst.out)
     have HCO2 := hide (HCO.out hst.out)
     have HFR := hide (from_any ins p cap ps HWF.out hm1 hr3 hr4 wr (hP.later hbw))
     clear HCS HCT HCO hst hlt
     cases hd : dupN ps ps.length
     · have HE := hide (HCO2.out hd)
       rw [hd] at HFR
       clear HCT2 HCO2 hd HNO
       go_wp2_with fail
       refine HFR.out.mono ?_
       rintro e w1 ⟨M, B, u, D, rfl, hmk, hown, hmap, hb1⟩
       have HB1 := hide (bthen hbw hb1)
       have HR := hide (HYE.out w1 HE.out M B u D ⟨hmk.c0, hmk.c1, hmk.c2, hmk.f1, hmk.row.mono hbw.size, Nat.le_trans hbw.size hmk.hM, Nat.le_trans hbw.size hmk.hB, hmk.ne, hmk.nv, hmk.nb⟩ hown hmap)
       clear hmk hown hmap hb1
       go_wp2
       go_ret2
       exact ⟨_, by rw [HE.out]; rfl, HR.out, HB1.out⟩
     · have HE := hide (HCT2.out hd)
       rw [hd] at HFR
       clear HCT2 HCO2 hd HYE
       go_wp2_with fail
       refine HFR.out.mono ?_
       rintro e w1 ⟨M, B, u, D, rfl, hmk, hown, hmap, hb1⟩
       have HB1 := hide (bthen hbw hb1)
       clear hmk hown hmap hb1
       go_wp2
       go_ret2
       exact ⟨_, by rw [HE.out]; rfl, HNO.out _ (by rw [HE.out]; decide), HB1.out⟩
theorem check_any (ins : Int) (p : Option Addr) (cap : Nat) (ps : List (Int × Int)) (hwf : WfP ps) (hl : ps.length ≤ 8796093022208) (w : World) (hP : PairsAt w p ps) :
   Calls Tryz.prog 61 #[gval ins p ps.length cap] w fun e w' => e = .returned (.int .i64 (chkE ins ps)) ∧ Below w.heap.size w w' := by
 have hB0 : Below w.heap.size w (w.alloc (.cells #[.int .i64 ins, .slice p ps.length cap] 24)) := bal (Below.refl _ _) _
 have HC := hide (checked_any ins p cap ps hwf hl _ (hP.later hB0))
 clear hP hwf
 generalize chkE ins ps = R at *
 go_enter Tryz.func61, Tryz.ntmps61
 go_wp2_with fail
 refine HC.out.mono ?_
 rintro e w1 ⟨v, rfl, _, hb1⟩
 have HB1 := hide (bthen hB0 hb1)
 clear hb1 hB0
 go_wp2
 go_ret
 exact ⟨rfl, HB1.out⟩
end Go.Proofs.YtjhkecnnhddhbaaGreatDoor

namespace Go.Proofs.YtjhkecnnhddhbaaGreatDoor
open Go.RowKit Go.Maps Go.WideMaps
set_option maxRecDepth 100000
theorem lit_inj {c d : Int} (h : (DataW.lit (.int .i64 c) : DataW Unit) = .lit (.int .i64 d)) : c = d := by
 injection h with h
 injection h
theorem cell_set_far {w : World} {p q : Addr} {u x : Value} (h : w.cell? q = some x) (hne : q.block ≠ p.block) : (w.setCell p u).cell? q = some x := by
 rw [World.cell?_of_block (w := w) (Below.heap_setCell w p u q.block hne)]; exact h
theorem owns_set {w : World} {base e size n : Nat} {v u : Value} {xs : List Value} {p : Addr} (h : w.ownsRow base e size v n xs) (hne : v.ownBlock ≠ some p.block) : (w.setCell p u).ownsRow base e size v n xs := by
 obtain ⟨h1, h2⟩ := h
 refine ⟨h1, ?_⟩
 rcases h2 with h2 | ⟨g, cap, cur, rfl, hg, hh, hr⟩
 · exact .inl h2
 · exact .inr ⟨g, cap, cur, rfl, hg, by rw [Below.heap_setCell w p u g (fun e => hne (by simp [Value.ownBlock, e]))]; exact hh, hr⟩
end Go.Proofs.YtjhkecnnhddhbaaGreatDoor
