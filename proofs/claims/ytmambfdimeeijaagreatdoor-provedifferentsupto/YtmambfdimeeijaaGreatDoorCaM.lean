/- Gates: a maker goes on from a graph. -/
import Derived.Test.YtmambfdimeeijaaGreatDoorGfM
import Derived.Deep.Onto
import Derived.Deep.RegionLaw
import Derived.Deep.AppendLies
namespace Go.Proofs.YtmambfdimeeijaaGreatDoor
open Go.RowKit Go.Maps Go.WideMaps
set_option maxRecDepth 100000
theorem andAt_succ (ps : List (Int × Int)) (k : Nat) (h : k < ps.length) (x : Int × Int) : andAt ps (k + 1) x = if 0 ≤ andAt ps k x then andAt ps k x else if ps[k] = x then (k : Int) else -1 := by
 unfold andAt
 rw [List.take_succ_eq_append_getElem h, List.findIdx?_append]
 cases h1 : (ps.take k).findIdx? (· == x) with
 | some i => simp
 | none =>
   by_cases e : ps[k] = x
   · simp [e]; omega
   · simp [e]
structure MapIs (ins : Int) (ps : List (Int × Int)) (k : Nat) (D : DataW Unit) : Prop where
 has : ∀ a b, Wf a → Wf b → Maps.has D (keyL a b) = decide (0 ≤ andAt ps k (a, b))
 lit : dupN ps k = false → ∀ a b, Wf a → Wf b → 0 ≤ andAt ps k (a, b) → D.atKey (keyL a b) (.lit (.int .i64 0)) = .lit (.int .i64 (2 * (1 + ins + andAt ps k (a, b))))
 once : dupN ps k = false → Maps.size D = k
 twice : dupN ps k = true → Maps.size D < k
theorem andAt_zero (ps : List (Int × Int)) (x : Int × Int) : andAt ps 0 x = -1 := by simp [andAt]
theorem mapIs_zero (ins : Int) (ps : List (Int × Int)) : MapIs ins ps 0 (.map []) :=
 ⟨fun a b _ _ => by rw [andAt_zero]; rfl, fun _ a b _ _ h => by rw [andAt_zero] at h; omega, fun _ => rfl, fun h => by simp [dupN] at h⟩
theorem keyL_key (a b : Int) : WideAt.IsKeyLit (keyL a b) := trivial
theorem MapIs.step {ins : Int} {ps : List (Int × Int)} {k : Nat} {D : DataW Unit} (h : MapIs ins ps k D) (ht : Tidy D) (hk : k < ps.length) (hw : WfP ps) :
   MapIs ins ps (k + 1) (D.put (keyL ps[k].1 ps[k].2) (.lit (.int .i64 (2 * (1 + ins + k))))) := by
 have hwk := hw k hk
 have hsz : Maps.size D ≤ k := by
   cases e : dupN ps k
   · exact Nat.le_of_eq (h.once e)
   · exact Nat.le_of_lt (h.twice e)
 have hhas := h.has _ _ hwk.1 hwk.2
 have hge := fun x => andAt_ge ps k x
 have hpair : (ps[k].1, ps[k].2) = ps[k] := rfl
 refine ⟨fun a b ha hb => ?_, fun hd a b ha hb h0 => ?_, fun hd => ?_, fun hd => ?_⟩
 · rw [andAt_succ ps k hk]
   by_cases e : (ps[k].1, ps[k].2) = (a, b)
   · have e2 : keyL ps[k].1 ps[k].2 = keyL a b := (keyL_inj hwk.1 hwk.2 ha hb).2 e
     rw [e2, has_put_same ht.isMap (keyL_key a b)]
     rw [hpair] at e
     rw [if_pos e]
     split <;> simp <;> omega
   · have e2 : keyL a b ≠ keyL ps[k].1 ps[k].2 := fun he => e ((keyL_inj hwk.1 hwk.2 ha hb).1 he.symm)
     rw [has_put_other e2, h.has a b ha hb]
     rw [hpair] at e
     rw [if_neg e]
     have := hge (a, b)
     split <;> simp <;> omega
 · rw [dupN_succ hk, Bool.or_eq_false_iff] at hd
   have hd2 : andAt ps k ps[k] < 0 := by simpa using hd.2
   rw [andAt_succ ps k hk] at h0 ⊢
   by_cases e : (ps[k].1, ps[k].2) = (a, b)
   · have e2 : keyL ps[k].1 ps[k].2 = keyL a b := (keyL_inj hwk.1 hwk.2 ha hb).2 e
     rw [e2, atKey_put_same ht.isMap (keyL_key a b)]
     rw [hpair] at e
     rw [e] at hd2
     rw [if_neg (by omega), if_pos e]
   · have e2 : keyL a b ≠ keyL ps[k].1 ps[k].2 := fun he => e ((keyL_inj hwk.1 hwk.2 ha hb).1 he.symm)
     rw [hpair] at e
     rw [atKey_put_other e2]
     rw [if_neg e] at h0 ⊢
     split at h0
     · rename_i h1
       rw [if_pos h1]
       exact h.lit hd.1 a b ha hb h1
     · omega
 · rw [dupN_succ hk, Bool.or_eq_false_iff] at hd
   rw [size_put ht, hhas, if_neg (by simp only [hpair]; simpa using hd.2), h.once hd.1]
 · rw [dupN_succ hk, Bool.or_eq_true] at hd
   rw [size_put ht, hhas]
   rcases hd with hd | hd
   · have := h.twice hd
     split <;> omega
   · rw [if_pos (by simp only [hpair]; exact hd)]
     omega
structure Mk (w : World) (base M B : Nat) (v : Value) (ins : Int) (ps : List (Int × Int)) : Prop where
 c0 : w.cell? ⟨M, 0, none⟩ = some (.int .i64 ins)
 c1 : w.cell? ⟨M, 1, none⟩ = some v
 c2 : w.cell? ⟨M, 2, none⟩ = some (.map (some B))
 f1 : w.frozen? ⟨M, 1, none⟩ = false
 row : w.ownsRow base 71 2 v ps.length (flat ps)
 hM : base ≤ M
 hB : base ≤ B
 ne : M ≠ B
 nv : v.ownBlock ≠ some M
 nb : v.ownBlock ≠ some B
theorem grown_frozen {w w1 : World} {row : Option Nat} {a : Addr} {v : Value} (hg : w.grownBy w1 row) (h : w.cell? a = some v) (hne : some a.block ≠ row) : w1.frozen? a = w.frozen? a :=
 World.frozen?_of_block (w := w) (hg.block a.block (World.block_lt_of_cell? _ _ h) hne)
theorem Mk.grown {w w1 : World} {base M B : Nat} {v : Value} {ins : Int} {ps : List (Int × Int)} (h : Mk w base M B v ins ps) (hg : w.grownBy w1 (some B)) : Mk w1 base M B v ins ps :=
 ⟨hg.cell h.c0 (by simpa using h.ne), hg.cell h.c1 (by simpa using h.ne), hg.cell h.c2 (by simpa using h.ne), (grown_frozen hg h.c1 (by simpa using h.ne)).trans h.f1, h.row.kept hg (Or.inr h.nb), h.hM, h.hB, h.ne, h.nv, h.nb⟩
theorem Mk.below {w w1 : World} {base M B : Nat} {v : Value} {ins : Int} {ps : List (Int × Int)} (h : Mk w base M B v ins ps) (hb : Below w.heap.size w w1) : Mk w1 base M B v ins ps :=
 ⟨cell_later hb h.c0, cell_later hb h.c1, cell_later hb h.c2, by rw [hb.frozen (World.block_lt_of_cell? _ _ h.c1)]; exact h.f1, owns_below h.row hb, h.hM, h.hB, h.ne, h.nv, h.nb⟩
theorem wrap_id {x : Int} (h0 : -9223372036854775808 ≤ x) (h1 : x ≤ 9223372036854775807) : IntKind.i64.wrap x = x := by rw [IntKind.wrap_i64]; omega
structure Rdy (w W2 : World) (M B : Nat) (v : Value) (ins : Int) (ps : List (Int × Int)) (p : Option Addr) (cap : Nat) : Prop where
 mem : Mk W2 w.heap.size M B v ins ps
 own : W2.ownsMap Tryz.prog 71 (plainElem (H := Unit) Tryz.prog 3) B 0 (.map [])
 bel : Below w.heap.size w W2
 nB : w.heap.size ≠ B
 q0 : W2.cell? ⟨w.heap.size, 0, none⟩ = some (.int .i64 ins)
 q1 : W2.cell? ⟨w.heap.size, 1, none⟩ = some (.slice p ps.length cap)
theorem rdy_one {w w1 : World} {ins : Int} {ps : List (Int × Int)} {p pv : Option Addr} {cap cv : Nat} (hr : w1.ownsRow (w.alloc (.cells #[.int .i64 ins, .slice p ps.length cap] 24)).drew.heap.size 71 2 (.slice pv ps.length cv) ps.length (flat ps))
   (hb : Below (w.alloc (.cells #[.int .i64 ins, .slice p ps.length cap] 24)).drew.heap.size (w.alloc (.cells #[.int .i64 ins, .slice p ps.length cap] 24)).drew w1) :
   Rdy w ((w1.alloc (.map #[] 0)).alloc (.cells #[.int .i64 ins, .slice pv ps.length cv, .map (some w1.heap.size)] 110)) (w1.heap.size + 1) w1.heap.size (.slice pv ps.length cv) ins ps p cap := by
 have hs := hb.size
 simp at hs
 have hlt := hr.lt
 refine ⟨⟨by simp [go_sem], by simp [go_sem], by simp [go_sem], by simp [go_sem], ((hr.alloc _).alloc _).mono (by simp), by omega, by omega, by omega, fun e => ?_, fun e => ?_⟩, ?_, ?_, by omega, ?_, ?_⟩
 · have := (hlt _ e).2; omega
 · have := (hlt _ e).2; omega
 · exact (World.ownsMap_made w1 Tryz.prog 71 (plainElem Tryz.prog 3)).alloc _
 · exact bal (bal (bthen (bal (Below.refl _ _) _).drew hb) _) _
 · exact past1 (past1 (cell_later hb (by simp [go_sem])) _) _
 · exact past1 (past1 (cell_later hb (by simp [go_sem])) _) _
theorem rdy_two {w w1 : World} {ins : Int} {ps : List (Int × Int)} {p pv : Option Addr} {cap cv : Nat} (hr : w1.ownsRow ((w.alloc (.cells #[.int .i64 ins, .slice p ps.length cap] 24)).alloc (.map #[] 0)).drew.heap.size 71 2 (.slice pv ps.length cv) ps.length (flat ps))
   (hb : Below ((w.alloc (.cells #[.int .i64 ins, .slice p ps.length cap] 24)).alloc (.map #[] 0)).drew.heap.size ((w.alloc (.cells #[.int .i64 ins, .slice p ps.length cap] 24)).alloc (.map #[] 0)).drew w1) :
   Rdy w (w1.alloc (.cells #[.int .i64 ins, .slice pv ps.length cv, .map (some (w.heap.size + 1))] 110)) w1.heap.size (w.heap.size + 1) (.slice pv ps.length cv) ins ps p cap := by
 have hs := hb.size
 simp at hs
 have hlt := hr.lt
 simp at hlt
 refine ⟨⟨by simp [go_sem], by simp [go_sem], by simp [go_sem], by simp [go_sem], (hr.alloc _).mono (by simp; omega), by omega, by omega, by omega, fun e => ?_, fun e => ?_⟩, ?_, ?_, by omega, ?_, ?_⟩
 · have := (hlt _ e).2; omega
 · have := (hlt _ e).1; omega
 · have := (World.ownsMap_made (w.alloc (.cells #[.int .i64 ins, .slice p ps.length cap] 24)) Tryz.prog 71 (plainElem (H := Unit) Tryz.prog 3)).drew
   simp at this
   exact (map_below this hb).alloc _
 · exact bal (bthen (bal (bal (Below.refl _ _) _) _).drew hb) _
 · exact past1 (cell_later hb (by simp [go_sem])) _
 · exact past1 (cell_later hb (by simp [go_sem])) _
set_option maxRecDepth 100000 in
set_option maxHeartbeats 4000000 in
theorem from_any (ins : Int) (p : Option Addr) (cap : Nat) (ps : List (Int × Int)) (hwf : WfP ps) (hl : ps.length ≤ 1000000) (h0 : 0 ≤ ins) (h1 : ins ≤ 1000) (w : World) (hP : PairsAt w p ps) :
   Calls Tryz.prog 96 #[gval ins p ps.length cap] w fun e w' => ∃ M B v D, e = .returned (.tuple #[.pointer (some ⟨M, 0, none⟩), .bool (!dupN ps ps.length)]) ∧
     Mk w' w.heap.size M B v ins ps ∧ w'.ownsMap Tryz.prog 71 (plainElem Tryz.prog 3) B ps.length D ∧ MapIs ins ps ps.length D ∧ Below w.heap.size w w' := by
 have HWF := hide hwf
 have hmm := run_makeMapS
 have hB0 : Below w.heap.size w (w.alloc (.cells #[.int .i64 ins, .slice p ps.length cap] 24)) := bal (Below.refl _ _) _
 have HB0 := hide hB0
 have HP := hide hP
 have HCL : Hid (∀ w1, Below w.heap.size w w1 → Calls Tryz.prog 123 #[.slice p ps.length cap] w1 fun e w' => ∃ (pv : Option Addr) (cv : Nat), e = .returned (.slice pv ps.length cv) ∧ w'.ownsRow w1.heap.size 71 2 (.slice pv ps.length cv) ps.length (flat ps) ∧ Below w1.heap.size w1 w') :=
   fun w1 hb => (clone_any p cap ps (by omega) w1 (hP.later hb)).mono fun e w' ⟨v, he, ho, hb⟩ => by
     obtain ⟨pv, cv, rfl, _⟩ := owns_pairs ho
     exact ⟨pv, cv, he, ho, hb⟩
 clear hwf hP hB0
 go_enter Tryz.func96, Tryz.ntmps96
 go_wp2
 go_region_held3 (fun w' => w'.cell? ⟨w.heap.size, 0, none⟩ = some (.int .i64 ins) ∧ w'.cell? ⟨w.heap.size, 1, none⟩ = some (.slice p ps.length cap))
   (first | exact ⟨cell_later hb1 (by simp [go_sem]), cell_later hb1 (by simp [go_sem])⟩ | go_keep)
   ((go_at_call 123; refine (HCL.out _ (by first | exact HB0.out.drew | exact bal HB0.out.drew _)).mono ?_; rintro e w1 ⟨pv, cv, rfl, hrow, hb1⟩))
 all_goals first
   | (have FF := rdy_one hrow hb1
      clear hrow hb1 HB0 HCL hmm
      rename_i hHeld
      clear hHeld
      generalize (w1.alloc (.map #[] 0)).alloc (.cells #[.int .i64 ins, .slice pv ps.length cv, .map (some w1.heap.size)] 110) = W2 at *
      generalize w1.heap.size + 1 = M at *
      generalize w1.heap.size = B at *)
   | (have FF := rdy_two hrow hb1
      clear hrow hb1 HB0 HCL hmm
      rename_i hHeld
      clear hHeld
      generalize (w1.alloc (.cells #[.int .i64 ins, .slice pv ps.length cv, .map (some (w.heap.size + 1))] 110)) = W2 at *
      generalize w1.heap.size = M at *
      generalize w.heap.size + 1 = B at *)
 all_goals
   obtain ⟨hmem, hown, hbel, hnB, q0, q1⟩ := FF
   go_wp2
   go_loopw [22] (fun i wr => ∃ k : Nat, k ≤ ps.length ∧ i = .int .i64 k ∧ ∃ D : DataW Unit, wr.ownsMap Tryz.prog 71 (plainElem Tryz.prog 3) B k D ∧ Hid (MapIs ins ps k D) ∧ Hid (Mk wr w.heap.size M B (.slice pv ps.length cv) ins ps) ∧ Below w.heap.size w wr ∧ wr.cell? ⟨w.heap.size, 0, none⟩ = some (.int .i64 ins) ∧ wr.cell? ⟨w.heap.size, 1, none⟩ = some (.slice p ps.length cap)) (fun i _ => ps.length - (intOf i).toNat)
   case atStart => exact ⟨0, Nat.zero_le _, rfl, .map [], hown, mapIs_zero _ _, hmem, hbel, q0, q1⟩
   case round =>
     clear hmem hown hbel q0 q1
     obtain ⟨k, hk, rfl, D, hown, hmap, hmem, hbw, q0, q1⟩ := hrel
     have hBlt := hown.lt
     have m2 := hmem.out.c2
     by_cases hlt : k < ps.length
     · obtain ⟨b1, o1, rfl, hc1⟩ := (HP.out.later hbw) (by omega)
       obtain ⟨c0, c1⟩ := hc1 k hlt
       have hki : (k : Int) < (ps.length : Int) := by omega
       have hwk := HWF.out k hlt
       have hkey := key55 hwk.1 hwk.2
       have HST := hide (hmap.out.step (hown.tidy law55) hlt HWF.out)
       clear hc1 hwk
       generalize ps[k] = pr at *
       obtain ⟨x, y⟩ := pr
       simp only at *
       obtain ⟨w1, hrun, hown1, hg1⟩ := ((hown.alloc (.cells #[.int .i64 x, .int .i64 y] 71)).drew).update law55 Tryz.underlying108 (by unfold maxLen; omega) hkey (plainElem_int Tryz.underlying3 (WalkArith.wf_i64 (by omega) : (Lit.int .i64 (2 * (1 + ins + k))).wf = true))
       have HO1 := hide hown1
       have hM1 : Mk w1 w.heap.size M B (.slice pv ps.length cv) ins ps := (hmem.out.below (bal (Below.refl _ _) (.cells #[.int .i64 x, .int .i64 y] 71)).drew).grown hg1
       have HM1 := hide hM1
       have HBW : Hid (Below w.heap.size w w1) := (bal hbw _).drew.grown hg1 (by have := hbw.size; simp; omega) (fun j hj => by cases hj; exact hmem.out.hB)
       have q0' := hg1.cell (a := ⟨w.heap.size, 0, none⟩) (past1 q0 (.cells #[.int .i64 x, .int .i64 y] 71)) (by simpa using hnB)
       have q1' := hg1.cell (a := ⟨w.heap.size, 1, none⟩) (past1 q1 (.cells #[.int .i64 x, .int .i64 y] 71)) (by simpa using hnB)
       have m2' := hM1.c2
       have d0 := hg1.cell (a := ⟨wr.heap.size, 0, none⟩) (v := .int .i64 x) (by simp [go_sem]) (by simp; omega)
       have d1 := hg1.cell (a := ⟨wr.heap.size, 1, none⟩) (v := .int .i64 y) (by simp [go_sem]) (by simp; omega)
       have hw1 := wrap_id (x := 1 + ins) (by omega) (by omega)
       have hw2 := wrap_id (x := 1 + ins + k) (by omega) (by omega)
       clear hown1 hM1 hg1 hown hmap
       go_wp2
       go_region_held3 (fun w' => w'.cell? ⟨M, 2, none⟩ = some (.map (some B)) ∧ w'.cell? ⟨wr.heap.size, 0, none⟩ = some (.int .i64 x) ∧ w'.cell? ⟨wr.heap.size, 1, none⟩ = some (.int .i64 y) ∧ w'.cell? ⟨w.heap.size, 0, none⟩ = some (.int .i64 ins))
         (first | exact ⟨m2', d0, d1, q0'⟩ | go_keep)
         ((go_at_call 81; refine (literal_any _ (by omega) (by omega) _).mono ?_; rintro e w' ⟨rfl, rfl⟩))
       go_wp2
       go_roundw
       case rel => exact ⟨k + 1, by omega, by go_num, _, HO1.out, HST, HM1, HBW.out, q0', q1'⟩
       case measure => simp [intOf]; omega
     · obtain rfl : k = ps.length := by omega
       have hlen : ∀ n ty, (Builtin.len_ #[108] ty #[.map (some B)]).run Tryz.prog (wr.drewN n) = .ok (.int .i64 (Maps.size D)) (wr.drewN n) := fun n ty => World.ownsMap.len (w := wr.drewN n) hown Tryz.underlying108 ty
       have HON := hide hown
       have HD : Hid (((Maps.size D : Int) == (ps.length : Int)) = !dupN ps ps.length) := by
         cases e : dupN ps ps.length
         · rw [hmap.out.once e]; simp [Hid]
         · have := hmap.out.twice e
           simp [Hid]; omega
       clear hown hlt
       go_wp2
       go_quiet (fail)
       go_wp2
       go_ret2
       exact ⟨M, B, _, D, by rw [← HD.out]; rfl, hmem.out.below (bdn (Below.refl _ _) _), map_below HON.out (bdn (Below.refl _ _) _), hmap.out, bdn hbw _⟩
end Go.Proofs.YtmambfdimeeijaaGreatDoor

namespace Go.Proofs.YtmambfdimeeijaaGreatDoor
open Go.RowKit Go.Maps Go.WideMaps
set_option maxRecDepth 100000
def Checked (w w' : World) (ins : Int) (ps : List (Int × Int)) (v : Value) : Prop :=
 if chkE ins ps = 0 then ∃ M B u D, v = .pointer (some ⟨M, 0, none⟩) ∧ Mk w' w.heap.size M B u ins ps ∧ w'.ownsMap Tryz.prog 71 (plainElem (H := Unit) Tryz.prog 3) B ps.length D ∧ MapIs ins ps ps.length D
 else v = .pointer none
set_option maxRecDepth 100000 in
set_option maxHeartbeats 4000000 in
theorem checked_any (ins : Int) (p : Option Addr) (cap : Nat) (ps : List (Int × Int)) (hwf : WfP ps) (hl : ps.length ≤ 8796093022208) (w : World) (hP : PairsAt w p ps) :
   Calls Tryz.prog 103 #[gval ins p ps.length cap] w fun e w' => ∃ v, e = .returned (.tuple #[v, .int .i64 (chkE ins ps)]) ∧ Checked w w' ins ps v ∧ Below w.heap.size w w' := by
 have HWF := hide hwf
 have hB0 : Below w.heap.size w (w.alloc (.cells #[.int .i64 ins, .slice p ps.length cap] 24)) := bal (Below.refl _ _) _
 clear hwf
 have HNO : Hid (∀ w', chkE ins ps ≠ 0 → Checked w w' ins ps (.pointer none)) := fun w' h => by unfold Checked; rw [if_neg h]
 have HYE : Hid (∀ w', chkE ins ps = 0 → ∀ M B u D, Mk w' w.heap.size M B u ins ps → w'.ownsMap Tryz.prog 71 (plainElem (H := Unit) Tryz.prog 3) B ps.length D → MapIs ins ps ps.length D → Checked w w' ins ps (.pointer (some ⟨M, 0, none⟩))) :=
   fun w' h M B u D h1 h2 h3 => by unfold Checked; rw [if_pos h]; exact ⟨M, B, u, D, rfl, h1, h2, h3⟩
 cases hr : btw ins 0 1000
 · have HE := hide (chk_range (ps := ps) hr)
   have hr2 := btw_false.1 hr
   clear HYE hr
   by_cases hn : ins < 0
   · go_enter Tryz.func103, Tryz.ntmps103
     go_wp2
     go_ret2
     exact ⟨_, by rw [HE.out]; rfl, HNO.out _ (by rw [HE.out]; decide), hB0⟩
   · have hn2 : 1000 < ins := by omega
     clear hr2
     go_enter Tryz.func103, Tryz.ntmps103
     go_wp2
     go_ret2
     exact ⟨_, by rw [HE.out]; rfl, HNO.out _ (by rw [HE.out]; decide), hB0⟩
 have hr2 := btw_true.1 hr
 obtain ⟨hr3, hr4⟩ := hr2
 by_cases hm : 1000000 < ps.length
 · have HE := hide (chk_many hr hm)
   have hm2 : (1000000 : Int) < (ps.length : Int) := by omega
   clear HYE hr
   go_enter Tryz.func103, Tryz.ntmps103
   go_wp2
   go_ret2
   exact ⟨_, by rw [HE.out]; rfl, HNO.out _ (by rw [HE.out]; decide), hB0⟩
 have hm1 : ps.length ≤ 1000000 := by omega
 have HCS := hide (chk_state hr hm1)
 have HCT := hide (chk_twice hr hm1)
 have HCO := hide (chk_ok hr hm1)
 clear hr
 go_enter Tryz.func103, Tryz.ntmps103
 go_wp2
 go_loopw [23] (fun i wr => ∃ k : Nat, k ≤ ps.length ∧ i = .int .i64 k ∧ Hid (stN ins ps k = true) ∧ Below w.heap.size w wr ∧ wr.cell? ⟨w.heap.size, 0, none⟩ = some (.int .i64 ins) ∧ wr.cell? ⟨w.heap.size, 1, none⟩ = some (.slice p ps.length cap)) (fun i _ => ps.length - (intOf i).toNat)
 case atStart => exact ⟨0, Nat.zero_le _, rfl, rfl, hB0, by simp [go_sem], by simp [go_sem]⟩
 case round =>
   obtain ⟨k, hk, rfl, hst, hbw, q0, q1⟩ := hrel
   by_cases hlt : k < ps.length
   · obtain ⟨b1, o1, rfl, hc1⟩ := (hP.later hbw) (by omega)
     obtain ⟨c0, c1⟩ := hc1 k hlt
     have hki : (k : Int) < (ps.length : Int) := by omega
     have HS := hide (stN_succ (ins := ins) hlt)
     have hwk := HWF.out k hlt
     unfold Wf at hwk
     clear hc1
     generalize ps[k] = pr at *
     obtain ⟨x, y⟩ := pr
     simp only at *
     have HBad : Hid (standB x y (1 + ins + k) = false → chkE ins ps = 4) := by
       intro hs
       refine HCS.out ?_
       rw [Bool.eq_false_iff]
       intro hh
       have := stN_down (k := k + 1) hh (by omega)
       rw [HS.out, hs] at this
       simp at this
     have hal : Below wr.heap.size wr (wr.alloc (.cells #[.int .i64 x, .int .i64 y] 71)) := bal (Below.refl _ _) _
     have q0a := fun o => past1 q0 o
     have HCL := hide (fun w1 => stands_any x y (1 + ins + k) hwk.2.2 w1)
     cases hs : standB x y (1 + ins + k)
     · have HE := hide (HBad.out hs)
       rw [hs] at HCL
       clear HBad HS HCS HCT HCO HYE hst hs
       go_wp2_with fail
       refine (HCL.out _).mono ?_
       rintro e w1 ⟨rfl, hb1⟩
       have HB1 := hide (bthen (bthen hbw hal) hb1)
       clear hb1 hal
       go_wp2
       go_ret2
       exact ⟨_, by rw [HE.out]; rfl, HNO.out _ (by rw [HE.out]; decide), HB1.out⟩
     · have HG : Hid (stN ins ps (k + 1) = true) := by rw [HS.out, hst.out, hs]; rfl
       rw [hs] at HCL
       clear HBad HS HCS HCT HCO HYE hst hs
       go_wp2_with fail
       refine (HCL.out _).mono ?_
       rintro e w1 ⟨rfl, hb1⟩
       have HB1 := hide (bthen (bthen hbw hal) hb1)
       have q0' := cell_later (bthen hal hb1) q0
       have q1' := cell_later (bthen hal hb1) q1
       clear hb1 hal
       go_wp2
       go_roundw
       case rel => exact ⟨k + 1, by omega, by go_num, HG, HB1.out, q0', q1'⟩
       case measure => simp [intOf]; omega
   · obtain rfl : k = ps.length := by omega
     have HCT2 := hide (HCT.out hst.out)
     have HCO2 := hide (HCO.out hst.out)
     have HFR := hide (from_any ins p cap ps HWF.out hm1 hr3 hr4 wr (hP.later hbw))
     clear HCS HCT HCO hst hlt
     cases hd : dupN ps ps.length
     · have HE := hide (HCO2.out hd)
       rw [hd] at HFR
       clear HCT2 HCO2 hd HNO
       go_wp2_with fail
       refine HFR.out.mono ?_
       rintro e w1 ⟨M, B, u, D, rfl, hmk, hown, hmap, hb1⟩
       have HB1 := hide (bthen hbw hb1)
       have HR := hide (HYE.out w1 HE.out M B u D ⟨hmk.c0, hmk.c1, hmk.c2, hmk.f1, hmk.row.mono hbw.size, Nat.le_trans hbw.size hmk.hM, Nat.le_trans hbw.size hmk.hB, hmk.ne, hmk.nv, hmk.nb⟩ hown hmap)
       clear hmk hown hmap hb1
       go_wp2
       go_ret2
       exact ⟨_, by rw [HE.out]; rfl, HR.out, HB1.out⟩
     · have HE := hide (HCT2.out hd)
       rw [hd] at HFR
       clear HCT2 HCO2 hd HYE
       go_wp2_with fail
       refine HFR.out.mono ?_
       rintro e w1 ⟨M, B, u, D, rfl, hmk, hown, hmap, hb1⟩
       have HB1 := hide (bthen hbw hb1)
       clear hmk hown hmap hb1
       go_wp2
       go_ret2
       exact ⟨_, by rw [HE.out]; rfl, HNO.out _ (by rw [HE.out]; decide), HB1.out⟩
theorem check_any (ins : Int) (p : Option Addr) (cap : Nat) (ps : List (Int × Int)) (hwf : WfP ps) (hl : ps.length ≤ 8796093022208) (w : World) (hP : PairsAt w p ps) :
   Calls Tryz.prog 73 #[gval ins p ps.length cap] w fun e w' => e = .returned (.int .i64 (chkE ins ps)) ∧ Below w.heap.size w w' := by
 have hB0 : Below w.heap.size w (w.alloc (.cells #[.int .i64 ins, .slice p ps.length cap] 24)) := bal (Below.refl _ _) _
 have HC := hide (checked_any ins p cap ps hwf hl _ (hP.later hB0))
 clear hP hwf
 generalize chkE ins ps = R at *
 go_enter Tryz.func73, Tryz.ntmps73
 go_wp2_with fail
 refine HC.out.mono ?_
 rintro e w1 ⟨v, rfl, _, hb1⟩
 have HB1 := hide (bthen hB0 hb1)
 clear hb1 hB0
 go_wp2
 go_ret
 exact ⟨rfl, HB1.out⟩
end Go.Proofs.YtmambfdimeeijaaGreatDoor

namespace Go.Proofs.YtmambfdimeeijaaGreatDoor
open Go.RowKit Go.Maps Go.WideMaps
set_option maxRecDepth 100000
theorem lit_inj {c d : Int} (h : (DataW.lit (.int .i64 c) : DataW Unit) = .lit (.int .i64 d)) : c = d := by
 injection h with h
 injection h
theorem cell_set_far {w : World} {p q : Addr} {u x : Value} (h : w.cell? q = some x) (hne : q.block ≠ p.block) : (w.setCell p u).cell? q = some x := by
 rw [World.cell?_of_block (w := w) (Below.heap_setCell w p u q.block hne)]; exact h
theorem owns_set {w : World} {base e size n : Nat} {v u : Value} {xs : List Value} {p : Addr} (h : w.ownsRow base e size v n xs) (hne : v.ownBlock ≠ some p.block) : (w.setCell p u).ownsRow base e size v n xs := by
 obtain ⟨h1, h2⟩ := h
 refine ⟨h1, ?_⟩
 rcases h2 with h2 | ⟨g, cap, cur, rfl, hg, hh, hr⟩
 · exact .inl h2
 · exact .inr ⟨g, cap, cur, rfl, hg, by rw [Below.heap_setCell w p u g (fun e => hne (by simp [Value.ownBlock, e]))]; exact hh, hr⟩
end Go.Proofs.YtmambfdimeeijaaGreatDoor

namespace Go.Proofs.YtmambfdimeeijaaGreatDoor
open Go.RowKit Go.Maps Go.WideMaps
set_option maxRecDepth 100000
end Go.Proofs.YtmambfdimeeijaaGreatDoor

namespace Go.Proofs.YtmambfdimeeijaaGreatDoor
open Go.RowKit Go.Maps Go.WideMaps
set_option maxRecDepth 100000
end Go.Proofs.YtmambfdimeeijaaGreatDoor

namespace Go.Proofs.YtmambfdimeeijaaGreatDoor
open Go.RowKit Go.Maps Go.WideMaps
set_option maxRecDepth 100000
theorem info4 : (Tryz.prog.info? 4).map (fun i => (i.zero, i.size, i.bytes)) = some (some (.bool false), 1, 1) := by kernel_rfl
end Go.Proofs.YtmambfdimeeijaaGreatDoor

namespace Go.Proofs.YtmambfdimeeijaaGreatDoor
open Go.RowKit Go.Maps Go.WideMaps
set_option maxRecDepth 100000
def BRow (w : World) (g : Nat) (bs : List Bool) : Prop := ∀ (j : Nat) (h : j < bs.length), w.cell? ⟨g, j, none⟩ = some (.bool bs[j]) ∧ w.frozen? ⟨g, j, none⟩ = false
end Go.Proofs.YtmambfdimeeijaaGreatDoor

namespace Go.Proofs.YtmambfdimeeijaaGreatDoor
open Go.RowKit Go.Maps Go.WideMaps
set_option maxRecDepth 100000
abbrev laid (w : World) (ins : Int) (p : Option Addr) (len cap : Nat) : World := (w.alloc (.cells #[.int .i64 ins, .slice p len cap] 24)).alloc (.cells #[.int .i64 0, .slice none 0 0] 24)
end Go.Proofs.YtmambfdimeeijaaGreatDoor

namespace Go.Proofs.YtmambfdimeeijaaGreatDoor
open Go.RowKit Go.Maps Go.WideMaps
set_option maxRecDepth 100000
end Go.Proofs.YtmambfdimeeijaaGreatDoor

namespace Go.Proofs.YtmambfdimeeijaaGreatDoor
end Go.Proofs.YtmambfdimeeijaaGreatDoor

namespace Go.Proofs.YtmambfdimeeijaaGreatDoor
open Go.RowKit Go.Maps Go.WideMaps
set_option maxRecDepth 100000
end Go.Proofs.YtmambfdimeeijaaGreatDoor

namespace Go.Proofs.YtmambfdimeeijaaGreatDoor
open Go.RowKit Go.Maps Go.WideMaps
set_option maxRecDepth 100000
end Go.Proofs.YtmambfdimeeijaaGreatDoor

namespace Go.Proofs.YtmambfdimeeijaaGreatDoor
open Go.RowKit Go.Maps Go.WideMaps
set_option maxRecDepth 100000
end Go.Proofs.YtmambfdimeeijaaGreatDoor

namespace Go.Proofs.YtmambfdimeeijaaGreatDoor
open Go.RowKit Go.Maps Go.WideMaps
set_option maxRecDepth 100000
theorem info3 : (Tryz.prog.info? 3).map (fun i => (i.zero, i.size, i.bytes)) = some (some (.int .i64 0), 1, 8) := by kernel_rfl
theorem owns_ints {w : World} {base : Nat} {v : Value} {l : List Int} (h : w.ownsRow base 3 1 v l.length (l.map (Value.int .i64))) : ∃ p cap, v = .slice p l.length cap ∧ IntsAt w p l ∧ (p = none → cap = 0) := by
 have h3 := h
 obtain ⟨h1, h2⟩ := h
 rcases h2 with ⟨rfl, h0⟩ | ⟨g, cap, cur, rfl, hg, hh, hn, hm, hs, ht⟩
 · exact ⟨none, 0, by rw [h0], fun h => by omega, fun _ => rfl⟩
 · refine ⟨_, cap, rfl, fun _ => ⟨g, 0, rfl, fun i hi => ?_⟩, fun h => by cases h⟩
   have := h3.cellAt i (by omega)
   rw [Nat.zero_add, this, List.getElem?_map, List.getElem?_eq_getElem hi]
   rfl
theorem ints_cells {w : World} {l : List Int} {ad : Addr} (h : IntsAt w (some ad) l) : ∀ j u, (l.map (Value.int .i64))[j]? = some u → w.cell? (ad.add j) = some u := by
 intro j u hj
 obtain ⟨hjl, hju⟩ := List.getElem?_eq_some_iff.1 hj
 have hjl' : j < l.length := by simpa using hjl
 obtain ⟨b, off, h, hc⟩ := h (by omega)
 cases h
 rw [Addr.add_lit, hc j hjl', ← hju]
 simp
theorem wp_append_ints {w : World} {o : Oper} {a : Act} {K : Act → World → Prop} {Q : Exit → Act → World → Prop} (s x : Operand)
   (ho : o.op = .call { callee := .builtin .append, args := #[s, x], argTypes := #[25, 25] })
   (base : Nat) (v : Value) (u l : List Int) (hs : a.eval s = v) (hown : w.ownsRow base 3 1 v u.length (u.map (Value.int .i64))) (p : Option Addr) (c : Nat) (hx : a.eval x = .slice p l.length c) (hB : IntsAt w p l) (hnil : p = none → c = 0)
   (hb : u.length + l.length ≤ 17592186044416) (hbase : base ≤ w.heap.size)
   (hK : ∀ v' w', w'.ownsRow base 3 1 v' (u ++ l).length ((u ++ l).map (Value.int .i64)) → w.grownBy w' v.ownBlock → K (a.put o.dst v') w') : o.wp Tryz.prog a w K Q := by
 obtain ⟨i0, hi, hz0, hz1, hz2⟩ := info_parts info3
 cases p with
 | none =>
   have h0 : l = [] := by
     cases l with
     | nil => rfl
     | cons a t => obtain ⟨b, off, h, _⟩ := hB (by simp); cases h
   subst h0
   obtain rfl := hnil rfl
   have hrun := run_append_owned_none (P := Tryz.prog) (w := w) base 25 o.type 3 i0 1 Tryz.underlying25 hi v u.length _ hown
   unfold Oper.wp
   simp only [List.length_nil] at hx
   simp [execOp, ho, resolve, invoke, builtin, hs, hx, hrun, Result.andThen]
   exact hK v w (by simpa using hown) ⟨rfl, rfl, rfl, Nat.le_refl _, fun _ _ _ => rfl⟩
 | some ad =>
   refine wp_append_own w s x 25 ho base 3 i0 (.int .i64 0) 1 8 Tryz.underlying25 hi hz0 hz1 hz2 rfl (by decide) v u.length _ hs hown ad l.length c (l.map (Value.int .i64)) hx (by simp) (ints_cells hB) ?_ (by unfold maxLen; omega) (by omega) hbase (fun v' w' a b _ => hK v' w' (by simpa using a) b)
   intro u hu
   obtain ⟨x, _, rfl⟩ := List.mem_map.1 hu
   rfl
theorem wpList_append_ints {w : World} {ops : Array Oper} {rest : List Oper} {o : Oper} {a : Act} {Q : Exit → Act → World → Prop} (hgd : o.guard = none) (s x : Operand)
   (ho : o.op = .call { callee := .builtin .append, args := #[s, x], argTypes := #[25, 25] })
   (base : Nat) (v : Value) (u l : List Int) (hs : a.eval s = v) (hown : w.ownsRow base 3 1 v u.length (u.map (Value.int .i64))) (p : Option Addr) (c : Nat) (hx : a.eval x = .slice p l.length c) (hB : IntsAt w p l) (hnil : p = none → c = 0)
   (hb : u.length + l.length ≤ 17592186044416) (hbase : base ≤ w.heap.size)
   (hK : ∀ v' w', w'.ownsRow base 3 1 v' (u ++ l).length ((u ++ l).map (Value.int .i64)) → w.grownBy w' v.ownBlock → wpList Tryz.prog ops Q rest (a.put o.dst v') w') : wpList Tryz.prog ops Q (o :: rest) a w :=
 wpList_plain hgd fun _ hK' => wp_append_ints s x ho base v u l hs hown p c hx hB hnil hb hbase fun v' w' h1 h2 => hK' _ _ (hK v' w' h1 h2)
theorem step_append_ints {w : World} {ops : Array Oper} {o : Oper} {a : Act} {K : Act → World → Prop} {Q : Exit → Act → World → Prop} {E : Prop} (hgd : o.guard = none) (s x : Operand)
   (ho : o.op = .call { callee := .builtin .append, args := #[s, x], argTypes := #[25, 25] })
   (base : Nat) (v : Value) (u l : List Int) (hs : a.eval s = v) (hown : w.ownsRow base 3 1 v u.length (u.map (Value.int .i64))) (p : Option Addr) (c : Nat) (hx : a.eval x = .slice p l.length c) (hB : IntsAt w p l) (hnil : p = none → c = 0)
   (hb : u.length + l.length ≤ 17592186044416) (hbase : base ≤ w.heap.size)
   (hK : ∀ v' w', w'.ownsRow base 3 1 v' (u ++ l).length ((u ++ l).map (Value.int .i64)) → w.grownBy w' v.ownBlock → K (a.put o.dst v') w') :
   if Region.wanted o (yielded ops a.tmps) = true then Oper.wp Tryz.prog o a w K Q else E := by
 have hw : Region.wanted o (yielded ops a.tmps) = true := by simp [Region.wanted, hgd]
 rw [if_pos hw]
 exact wp_append_ints s x ho base v u l hs hown p c hx hB hnil hb hbase hK
theorem ints_one {w : World} (x : Int) : IntsAt (w.alloc (.cells #[.int .i64 x] 3)) (some ⟨w.heap.size, 0, none⟩) [x] := fun _ => ⟨w.heap.size, 0, rfl, fun i hi => by
 match i, hi with
 | 0, _ => simp [go_sem]⟩
def upto (k : Nat) : List Int := (List.range k).map (fun i : Nat => (i : Int))
end Go.Proofs.YtmambfdimeeijaaGreatDoor

namespace Go.Proofs.YtmambfdimeeijaaGreatDoor
open Go.RowKit Go.Maps Go.WideMaps
set_option maxRecDepth 100000
def numL (x : Int) : Int := if odd x = true then -(x / 2) else x / 2
def andC (n a b : Int) : List (List Int) := [[-n, numL a], [-n, numL b], [n, -numL a, -numL b]]
def rootC (x : Int) : List (List Int) := if x = 1 then [] else if x = 0 then [[]] else [[numL x]]
def andsC (ins : Int) (ps : List (Int × Int)) : Nat → List (List Int)
 | 0 => []
 | k + 1 => andsC ins ps k ++ (match ps[k]? with | some p => andC (1 + ins + k) p.1 p.2 | none => [])
theorem andsC_succ {ins : Int} {ps : List (Int × Int)} {k : Nat} (h : k < ps.length) : andsC ins ps (k + 1) = andsC ins ps k ++ andC (1 + ins + k) ps[k].1 ps[k].2 := by
 simp [andsC, List.getElem?_eq_getElem h]
theorem stand_two {a b n : Int} (h : standB a b n = true) : 2 ≤ a ∧ a < 2 * n ∧ 2 ≤ b ∧ b < 2 * n := by
 simp [standB] at h
 omega
end Go.Proofs.YtmambfdimeeijaaGreatDoor
