/- Gates: a maker goes on from a graph. -/
import Derived.Test.YtdlfjijfdibocaaGf
import Derived.Deep.Onto
namespace Go.Proofs.Ytdlfjijfdibocaa
open Go.RowKit Go.Maps Go.WideMaps
set_option maxRecDepth 100000

theorem andAt_succ (ps : List (Int × Int)) (k : Nat) (h : k < ps.length) (x : Int × Int) : andAt ps (k + 1) x = if 0 ≤ andAt ps k x then andAt ps k x else if ps[k] = x then (k : Int) else -1 := by
  unfold andAt
  rw [List.take_succ_eq_append_getElem h, List.findIdx?_append]
  cases h1 : (ps.take k).findIdx? (· == x) with
  | some i => simp
  | none =>
    by_cases e : ps[k] = x
    · simp [e]; omega
    · simp [e]

/-- What the maker's map holds: the first k pairs' literals. -/
structure MapIs (ins : Int) (ps : List (Int × Int)) (k : Nat) (D : DataW Unit) : Prop where
  has : ∀ a b, Wf a → Wf b → Maps.has D (keyL a b) = decide (0 ≤ andAt ps k (a, b))
  lit : dupN ps k = false → ∀ a b, Wf a → Wf b → 0 ≤ andAt ps k (a, b) → D.atKey (keyL a b) (.lit (.int .i64 0)) = .lit (.int .i64 (2 * (1 + ins + andAt ps k (a, b))))
  once : dupN ps k = false → Maps.size D = k
  twice : dupN ps k = true → Maps.size D < k

theorem andAt_zero (ps : List (Int × Int)) (x : Int × Int) : andAt ps 0 x = -1 := by simp [andAt]

theorem mapIs_zero (ins : Int) (ps : List (Int × Int)) : MapIs ins ps 0 (.map []) :=
  ⟨fun a b _ _ => by rw [andAt_zero]; rfl, fun _ a b _ _ h => by rw [andAt_zero] at h; omega, fun _ => rfl, fun h => by simp [dupN] at h⟩

theorem keyL_key (a b : Int) : WideAt.IsKeyLit (keyL a b) := trivial

theorem MapIs.step {ins : Int} {ps : List (Int × Int)} {k : Nat} {D : DataW Unit} (h : MapIs ins ps k D) (ht : Tidy D) (hk : k < ps.length) (hw : WfP ps) :
    MapIs ins ps (k + 1) (D.put (keyL ps[k].1 ps[k].2) (.lit (.int .i64 (2 * (1 + ins + k))))) := by
  have hwk := hw k hk
  have hsz : Maps.size D ≤ k := by
    cases e : dupN ps k
    · exact Nat.le_of_eq (h.once e)
    · exact Nat.le_of_lt (h.twice e)
  have hhas := h.has _ _ hwk.1 hwk.2
  have hge := fun x => andAt_ge ps k x
  have hpair : (ps[k].1, ps[k].2) = ps[k] := rfl
  refine ⟨fun a b ha hb => ?_, fun hd a b ha hb h0 => ?_, fun hd => ?_, fun hd => ?_⟩
  · rw [andAt_succ ps k hk]
    by_cases e : (ps[k].1, ps[k].2) = (a, b)
    · have e2 : keyL ps[k].1 ps[k].2 = keyL a b := (keyL_inj hwk.1 hwk.2 ha hb).2 e
      rw [e2, has_put_same ht.isMap (keyL_key a b)]
      rw [hpair] at e
      rw [if_pos e]
      split <;> simp <;> omega
    · have e2 : keyL a b ≠ keyL ps[k].1 ps[k].2 := fun he => e ((keyL_inj hwk.1 hwk.2 ha hb).1 he.symm)
      rw [has_put_other e2, h.has a b ha hb]
      rw [hpair] at e
      rw [if_neg e]
      have := hge (a, b)
      split <;> simp <;> omega
  · rw [dupN_succ hk, Bool.or_eq_false_iff] at hd
    have hd2 : andAt ps k ps[k] < 0 := by simpa using hd.2
    rw [andAt_succ ps k hk] at h0 ⊢
    by_cases e : (ps[k].1, ps[k].2) = (a, b)
    · have e2 : keyL ps[k].1 ps[k].2 = keyL a b := (keyL_inj hwk.1 hwk.2 ha hb).2 e
      rw [e2, atKey_put_same ht.isMap (keyL_key a b)]
      rw [hpair] at e
      rw [e] at hd2
      rw [if_neg (by omega), if_pos e]
    · have e2 : keyL a b ≠ keyL ps[k].1 ps[k].2 := fun he => e ((keyL_inj hwk.1 hwk.2 ha hb).1 he.symm)
      rw [hpair] at e
      rw [atKey_put_other e2]
      rw [if_neg e] at h0 ⊢
      split at h0
      · rename_i h1
        rw [if_pos h1]
        exact h.lit hd.1 a b ha hb h1
      · omega
  · rw [dupN_succ hk, Bool.or_eq_false_iff] at hd
    rw [size_put ht, hhas, if_neg (by simp only [hpair]; simpa using hd.2), h.once hd.1]
  · rw [dupN_succ hk, Bool.or_eq_true] at hd
    rw [size_put ht, hhas]
    rcases hd with hd | hd
    · have := h.twice hd
      split <;> omega
    · rw [if_pos (by simp only [hpair]; exact hd)]
      omega

/-- A maker's memory. -/
structure Mk (w : World) (base M B : Nat) (v : Value) (ins : Int) (ps : List (Int × Int)) : Prop where
  c0 : w.cell? ⟨M, 0, none⟩ = some (.int .i64 ins)
  c1 : w.cell? ⟨M, 1, none⟩ = some v
  c2 : w.cell? ⟨M, 2, none⟩ = some (.map (some B))
  f1 : w.frozen? ⟨M, 1, none⟩ = false
  row : w.ownsRow base 36 2 v ps.length (flat ps)
  hM : base ≤ M
  hB : base ≤ B
  ne : M ≠ B
  nv : v.ownBlock ≠ some M
  nb : v.ownBlock ≠ some B

theorem grown_frozen {w w1 : World} {row : Option Nat} {a : Addr} {v : Value} (hg : w.grownBy w1 row) (h : w.cell? a = some v) (hne : some a.block ≠ row) : w1.frozen? a = w.frozen? a :=
  World.frozen?_of_block (w := w) (hg.block a.block (World.block_lt_of_cell? _ _ h) hne)
theorem Mk.grown {w w1 : World} {base M B : Nat} {v : Value} {ins : Int} {ps : List (Int × Int)} (h : Mk w base M B v ins ps) (hg : w.grownBy w1 (some B)) : Mk w1 base M B v ins ps :=
  ⟨hg.cell h.c0 (by simpa using h.ne), hg.cell h.c1 (by simpa using h.ne), hg.cell h.c2 (by simpa using h.ne), (grown_frozen hg h.c1 (by simpa using h.ne)).trans h.f1, h.row.kept hg (Or.inr h.nb), h.hM, h.hB, h.ne, h.nv, h.nb⟩
theorem Mk.below {w w1 : World} {base M B : Nat} {v : Value} {ins : Int} {ps : List (Int × Int)} (h : Mk w base M B v ins ps) (hb : Below w.heap.size w w1) : Mk w1 base M B v ins ps :=
  ⟨cell_later hb h.c0, cell_later hb h.c1, cell_later hb h.c2, by rw [hb.frozen (World.block_lt_of_cell? _ _ h.c1)]; exact h.f1, owns_below h.row hb, h.hM, h.hB, h.ne, h.nv, h.nb⟩

theorem wrap_id {x : Int} (h0 : -9223372036854775808 ≤ x) (h1 : x ≤ 9223372036854775807) : IntKind.i64.wrap x = x := by rw [IntKind.wrap_i64]; omega

/-- What is at hand ahead of the loop. -/
structure Rdy (w W2 : World) (M B : Nat) (v : Value) (ins : Int) (ps : List (Int × Int)) (p : Option Addr) (cap : Nat) : Prop where
  mem : Mk W2 w.heap.size M B v ins ps
  own : W2.ownsMap Try.prog 36 (plainElem (H := Unit) Try.prog 3) B 0 (.map [])
  bel : Below w.heap.size w W2
  nB : w.heap.size ≠ B
  q0 : W2.cell? ⟨w.heap.size, 0, none⟩ = some (.int .i64 ins)
  q1 : W2.cell? ⟨w.heap.size, 1, none⟩ = some (.slice p ps.length cap)

theorem rdy_one {w w1 : World} {ins : Int} {ps : List (Int × Int)} {p pv : Option Addr} {cap cv : Nat} (hr : w1.ownsRow (w.alloc (.cells #[.int .i64 ins, .slice p ps.length cap] 39)).drew.heap.size 36 2 (.slice pv ps.length cv) ps.length (flat ps))
    (hb : Below (w.alloc (.cells #[.int .i64 ins, .slice p ps.length cap] 39)).drew.heap.size (w.alloc (.cells #[.int .i64 ins, .slice p ps.length cap] 39)).drew w1) :
    Rdy w ((w1.alloc (.map #[] 0)).alloc (.cells #[.int .i64 ins, .slice pv ps.length cv, .map (some w1.heap.size)] 107)) (w1.heap.size + 1) w1.heap.size (.slice pv ps.length cv) ins ps p cap := by
  have hs := hb.size
  simp at hs
  have hlt := hr.lt
  refine ⟨⟨by simp [go_sem], by simp [go_sem], by simp [go_sem], by simp [go_sem], ((hr.alloc _).alloc _).mono (by simp), by omega, by omega, by omega, fun e => ?_, fun e => ?_⟩, ?_, ?_, by omega, ?_, ?_⟩
  · have := (hlt _ e).2; omega
  · have := (hlt _ e).2; omega
  · exact (World.ownsMap_made w1 Try.prog 36 (plainElem Try.prog 3)).alloc _
  · exact bal (bal (bthen (bal (Below.refl _ _) _).drew hb) _) _
  · exact past1 (past1 (cell_later hb (by simp [go_sem])) _) _
  · exact past1 (past1 (cell_later hb (by simp [go_sem])) _) _

theorem rdy_two {w w1 : World} {ins : Int} {ps : List (Int × Int)} {p pv : Option Addr} {cap cv : Nat} (hr : w1.ownsRow ((w.alloc (.cells #[.int .i64 ins, .slice p ps.length cap] 39)).alloc (.map #[] 0)).drew.heap.size 36 2 (.slice pv ps.length cv) ps.length (flat ps))
    (hb : Below ((w.alloc (.cells #[.int .i64 ins, .slice p ps.length cap] 39)).alloc (.map #[] 0)).drew.heap.size ((w.alloc (.cells #[.int .i64 ins, .slice p ps.length cap] 39)).alloc (.map #[] 0)).drew w1) :
    Rdy w (w1.alloc (.cells #[.int .i64 ins, .slice pv ps.length cv, .map (some (w.heap.size + 1))] 107)) w1.heap.size (w.heap.size + 1) (.slice pv ps.length cv) ins ps p cap := by
  have hs := hb.size
  simp at hs
  have hlt := hr.lt
  simp at hlt
  refine ⟨⟨by simp [go_sem], by simp [go_sem], by simp [go_sem], by simp [go_sem], (hr.alloc _).mono (by simp; omega), by omega, by omega, by omega, fun e => ?_, fun e => ?_⟩, ?_, ?_, by omega, ?_, ?_⟩
  · have := (hlt _ e).2; omega
  · have := (hlt _ e).1; omega
  · have := (World.ownsMap_made (w.alloc (.cells #[.int .i64 ins, .slice p ps.length cap] 39)) Try.prog 36 (plainElem (H := Unit) Try.prog 3)).drew
    simp at this
    exact (map_below this hb).alloc _
  · exact bal (bthen (bal (bal (Below.refl _ _) _) _).drew hb) _
  · exact past1 (cell_later hb (by simp [go_sem])) _
  · exact past1 (cell_later hb (by simp [go_sem])) _

set_option maxRecDepth 100000 in
set_option maxHeartbeats 4000000 in
theorem from_any (ins : Int) (p : Option Addr) (cap : Nat) (ps : List (Int × Int)) (hwf : WfP ps) (hl : ps.length ≤ 1000000) (h0 : 0 ≤ ins) (h1 : ins ≤ 1000) (w : World) (hP : PairsAt w p ps) :
    Calls Try.prog 54 #[gval ins p ps.length cap] w fun e w' => ∃ M B v D, e = .returned (.tuple #[.pointer (some ⟨M, 0, none⟩), .bool (!dupN ps ps.length)]) ∧
      Mk w' w.heap.size M B v ins ps ∧ w'.ownsMap Try.prog 36 (plainElem Try.prog 3) B ps.length D ∧ MapIs ins ps ps.length D ∧ Below w.heap.size w w' := by
  have HWF := hide hwf
  have hmm := run_makeMapS
  have hB0 : Below w.heap.size w (w.alloc (.cells #[.int .i64 ins, .slice p ps.length cap] 39)) := bal (Below.refl _ _) _
  have HB0 := hide hB0
  have HP := hide hP
  have HCL : Hid (∀ w1, Below w.heap.size w w1 → Calls Try.prog 69 #[.slice p ps.length cap] w1 fun e w' => ∃ (pv : Option Addr) (cv : Nat), e = .returned (.slice pv ps.length cv) ∧ w'.ownsRow w1.heap.size 36 2 (.slice pv ps.length cv) ps.length (flat ps) ∧ Below w1.heap.size w1 w') :=
    fun w1 hb => (clone_any p cap ps (by omega) w1 (hP.later hb)).mono fun e w' ⟨v, he, ho, hb⟩ => by
      obtain ⟨pv, cv, rfl, _⟩ := owns_pairs ho
      exact ⟨pv, cv, he, ho, hb⟩
  clear hwf hP hB0
  go_enter Try.func54, Try.ntmps54
  go_wp2
  go_region_held3 (fun w' => w'.cell? ⟨w.heap.size, 0, none⟩ = some (.int .i64 ins) ∧ w'.cell? ⟨w.heap.size, 1, none⟩ = some (.slice p ps.length cap))
    (first | exact ⟨cell_later hb1 (by simp [go_sem]), cell_later hb1 (by simp [go_sem])⟩ | go_keep)
    ((go_at_call 69; refine (HCL.out _ (by first | exact HB0.out.drew | exact bal HB0.out.drew _)).mono ?_; rintro e w1 ⟨pv, cv, rfl, hrow, hb1⟩))
  all_goals first
    | (have FF := rdy_one hrow hb1
       clear hrow hb1 HB0 HCL hmm
       rename_i hHeld
       clear hHeld
       generalize (w1.alloc (.map #[] 0)).alloc (.cells #[.int .i64 ins, .slice pv ps.length cv, .map (some w1.heap.size)] 107) = W2 at *
       generalize w1.heap.size + 1 = M at *
       generalize w1.heap.size = B at *)
    | (have FF := rdy_two hrow hb1
       clear hrow hb1 HB0 HCL hmm
       rename_i hHeld
       clear hHeld
       generalize (w1.alloc (.cells #[.int .i64 ins, .slice pv ps.length cv, .map (some (w.heap.size + 1))] 107)) = W2 at *
       generalize w1.heap.size = M at *
       generalize w.heap.size + 1 = B at *)
  all_goals
    obtain ⟨hmem, hown, hbel, hnB, q0, q1⟩ := FF
    go_wp2
    go_loopw [22] (fun i wr => ∃ k : Nat, k ≤ ps.length ∧ i = .int .i64 k ∧ ∃ D : DataW Unit, wr.ownsMap Try.prog 36 (plainElem Try.prog 3) B k D ∧ Hid (MapIs ins ps k D) ∧ Hid (Mk wr w.heap.size M B (.slice pv ps.length cv) ins ps) ∧ Below w.heap.size w wr ∧ wr.cell? ⟨w.heap.size, 0, none⟩ = some (.int .i64 ins) ∧ wr.cell? ⟨w.heap.size, 1, none⟩ = some (.slice p ps.length cap)) (fun i _ => ps.length - (intOf i).toNat)
    case atStart => exact ⟨0, Nat.zero_le _, rfl, .map [], hown, mapIs_zero _ _, hmem, hbel, q0, q1⟩
    case round =>
      clear hmem hown hbel q0 q1
      obtain ⟨k, hk, rfl, D, hown, hmap, hmem, hbw, q0, q1⟩ := hrel
      have hBlt := hown.lt
      have m2 := hmem.out.c2
      by_cases hlt : k < ps.length
      · obtain ⟨b1, o1, rfl, hc1⟩ := (HP.out.later hbw) (by omega)
        obtain ⟨c0, c1⟩ := hc1 k hlt
        have hki : (k : Int) < (ps.length : Int) := by omega
        have hwk := HWF.out k hlt
        have hkey := key55 hwk.1 hwk.2
        have HST := hide (hmap.out.step (hown.tidy law55) hlt HWF.out)
        clear hc1 hwk
        generalize ps[k] = pr at *
        obtain ⟨x, y⟩ := pr
        simp only at *
        obtain ⟨w1, hrun, hown1, hg1⟩ := ((hown.alloc (.cells #[.int .i64 x, .int .i64 y] 36)).drew).update law55 Try.underlying105 (by unfold maxLen; omega) hkey (plainElem_int Try.underlying3 (WalkArith.wf_i64 (by omega) : (Lit.int .i64 (2 * (1 + ins + k))).wf = true))
        have HO1 := hide hown1
        have hM1 : Mk w1 w.heap.size M B (.slice pv ps.length cv) ins ps := (hmem.out.below (bal (Below.refl _ _) (.cells #[.int .i64 x, .int .i64 y] 36)).drew).grown hg1
        have HM1 := hide hM1
        have HBW : Hid (Below w.heap.size w w1) := (bal hbw _).drew.grown hg1 (by have := hbw.size; simp; omega) (fun j hj => by cases hj; exact hmem.out.hB)
        have q0' := hg1.cell (a := ⟨w.heap.size, 0, none⟩) (past1 q0 (.cells #[.int .i64 x, .int .i64 y] 36)) (by simpa using hnB)
        have q1' := hg1.cell (a := ⟨w.heap.size, 1, none⟩) (past1 q1 (.cells #[.int .i64 x, .int .i64 y] 36)) (by simpa using hnB)
        have m2' := hM1.c2
        have d0 := hg1.cell (a := ⟨wr.heap.size, 0, none⟩) (v := .int .i64 x) (by simp [go_sem]) (by simp; omega)
        have d1 := hg1.cell (a := ⟨wr.heap.size, 1, none⟩) (v := .int .i64 y) (by simp [go_sem]) (by simp; omega)
        have hw1 := wrap_id (x := 1 + ins) (by omega) (by omega)
        have hw2 := wrap_id (x := 1 + ins + k) (by omega) (by omega)
        clear hown1 hM1 hg1 hown hmap
        go_wp2
        go_region_held3 (fun w' => w'.cell? ⟨M, 2, none⟩ = some (.map (some B)) ∧ w'.cell? ⟨wr.heap.size, 0, none⟩ = some (.int .i64 x) ∧ w'.cell? ⟨wr.heap.size, 1, none⟩ = some (.int .i64 y) ∧ w'.cell? ⟨w.heap.size, 0, none⟩ = some (.int .i64 ins))
          (first | exact ⟨m2', d0, d1, q0'⟩ | go_keep)
          ((go_at_call 43; refine (literal_any _ (by omega) (by omega) _).mono ?_; rintro e w' ⟨rfl, rfl⟩))
        go_wp2
        go_roundw
        case rel => exact ⟨k + 1, by omega, by go_num, _, HO1.out, HST, HM1, HBW.out, q0', q1'⟩
        case measure => simp [intOf]; omega
      · obtain rfl : k = ps.length := by omega
        have hlen : ∀ n ty, (Builtin.len_ #[105] ty #[.map (some B)]).run Try.prog (wr.drewN n) = .ok (.int .i64 (Maps.size D)) (wr.drewN n) := fun n ty => World.ownsMap.len (w := wr.drewN n) hown Try.underlying105 ty
        have HON := hide hown
        have HD : Hid (((Maps.size D : Int) == (ps.length : Int)) = !dupN ps ps.length) := by
          cases e : dupN ps ps.length
          · rw [hmap.out.once e]; simp [Hid]
          · have := hmap.out.twice e
            simp [Hid]; omega
        clear hown hlt
        go_wp2
        go_quiet (fail)
        go_wp2
        go_ret2
        exact ⟨M, B, _, D, by rw [← HD.out]; rfl, hmem.out.below (bdn (Below.refl _ _) _), map_below HON.out (bdn (Below.refl _ _) _), hmap.out, bdn hbw _⟩

end Go.Proofs.Ytdlfjijfdibocaa
