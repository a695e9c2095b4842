/- Proofs: what must be in any case. -/
import Derived.Test.YtabnimgpednhjabPx
namespace Go.Proofs.Ytabnimgpednhjab.Pf
open Go.RowKit Go.Maps Go.WideMaps
set_option maxRecDepth 100000

def bL : List (List Int) := [[1, 2], [1, -2], [-1, 2], [-1, -2]]
theorem b_chk : chkC 2 (bL ++ [[1], []]) = 0 := by decide
theorem b_fol : folE 2 bL [] = 0 := by decide
theorem b_prf : PrfOk bL [[1], []] := by
  refine ⟨by simp, fun k hk => ?_⟩
  match k, hk with
  | 0, _ =>
    simp only [List.take_zero, List.append_nil, List.getElem_cons_zero]
    have h1 : UP bL (negs [1]) (-1) := .base ⟨1, by simp, rfl⟩
    have h2 : UP bL (negs [1]) 2 := .unit [1, 2] (by simp [bL]) (by simp) fun m hm hne => by
      simp at hm
      rcases hm with rfl | rfl
      · exact h1
      · exact absurd rfl hne
    refine .inr ⟨[1, -2], by simp [bL], fun m hm => ?_⟩
    simp at hm
    rcases hm with rfl | rfl
    · exact h1
    · exact h2
  | 1, _ =>
    simp only [List.take_succ_cons, List.take_zero, List.getElem_cons_succ, List.getElem_cons_zero]
    have h1 : UP (bL ++ [[1]]) (negs []) 1 := .unit [1] (by simp) (by simp) fun m hm hne => by
      simp at hm
      exact absurd hm hne
    have h2 : UP (bL ++ [[1]]) (negs []) 2 := .unit [-1, 2] (by simp [bL]) (by simp) fun m hm hne => by
      simp at hm
      rcases hm with rfl | rfl
      · exact h1
      · exact absurd rfl hne
    refine .inr ⟨[-1, -2], by simp [bL], fun m hm => ?_⟩
    simp at hm
    rcases hm with rfl | rfl
    · exact h1
    · exact h2
theorem b_no : ¬ Confl bL (negs []) := by
  refine no_confl (S := fun _ => False) (fun n ⟨m, hm, _⟩ => by simp at hm) (fun n h => h.elim) (fun c hc => ?_)
  simp [bL] at hc
  rcases hc with rfl | rfl | rfl | rfl
  · exact .inr ⟨1, by simp, 2, by simp, by decide, fun h => h, fun h => h⟩
  · exact .inr ⟨1, by simp, -2, by simp, by decide, fun h => h, fun h => h⟩
  · exact .inr ⟨-1, by simp, 2, by simp, by decide, fun h => h, fun h => h⟩
  · exact .inr ⟨-1, by simp, -2, by simp, by decide, fun h => h, fun h => h⟩
def bR (b : Nat) : List Row := [⟨some ⟨b, 0, none⟩, [1, 2], 2⟩, ⟨some ⟨b + 1, 0, none⟩, [1, -2], 2⟩, ⟨some ⟨b + 1 + 1, 0, none⟩, [-1, 2], 2⟩, ⟨some ⟨b + 1 + 1 + 1, 0, none⟩, [-1, -2], 2⟩]
def pR (b : Nat) : List Row := [⟨some ⟨b, 0, none⟩, [1], 1⟩, ⟨none, [], 0⟩]
theorem bR_nums (b : Nat) : numsOf (bR b) = bL := rfl
theorem pR_nums (b : Nat) : numsOf (pR b) = [[1], []] := rfl
theorem ints2 {w : World} {b : Nat} {x y : Int} (h0 : w.cell? ⟨b, 0, none⟩ = some (.int .i64 x)) (h1 : w.cell? ⟨b, 1, none⟩ = some (.int .i64 y)) : IntsAt w (some ⟨b, 0, none⟩) [x, y] := fun _ => ⟨b, 0, rfl, fun i hi => by
  match i, hi with
  | 0, _ => exact h0
  | 1, _ => exact h1⟩
abbrev bW (w : World) : World := (((((w.alloc (.cells #[.int .i64 1, .int .i64 2] 3)).alloc (.cells #[.int .i64 1, .int .i64 (-2)] 3)).alloc (.cells #[.int .i64 (-1), .int .i64 2] 3)).alloc (.cells #[.int .i64 (-1), .int .i64 (-2)] 3)).alloc (.cells #[.slice (some ⟨w.heap.size, 0, none⟩) 2 2, .slice (some ⟨w.heap.size + 1, 0, none⟩) 2 2, .slice (some ⟨w.heap.size + 1 + 1, 0, none⟩) 2 2, .slice (some ⟨w.heap.size + 1 + 1 + 1, 0, none⟩) 2 2] 36)).alloc (.cells #[.int .i64 2, .slice (some ⟨w.heap.size + 1 + 1 + 1 + 1, 0, none⟩) 4 4] 47)
theorem b_cl (w : World) : ClAt (bW w) (some ⟨w.heap.size + 1 + 1 + 1 + 1, 0, none⟩) (bR w.heap.size) := by
  refine ⟨fun _ => ⟨w.heap.size + 1 + 1 + 1 + 1, 0, rfl, fun i hi => ?_⟩, fun r hr => ?_⟩
  · match i, hi with
    | 0, _ => simp [go_sem, bR, Row.v]
    | 1, _ => simp [go_sem, bR, Row.v]
    | 2, _ => simp [go_sem, bR, Row.v]
    | 3, _ => simp [go_sem, bR, Row.v]
  · simp [bR] at hr
    rcases hr with rfl | rfl | rfl | rfl
    · exact ints2 (by simp [go_sem]) (by simp [go_sem])
    · exact ints2 (by simp [go_sem]) (by simp [go_sem])
    · exact ints2 (by simp [go_sem]) (by simp [go_sem])
    · exact ints2 (by simp [go_sem]) (by simp [go_sem])
theorem p_cl (w : World) : ClAt ((w.alloc (.cells #[.int .i64 1] 3)).alloc (.cells #[.slice (some ⟨w.heap.size, 0, none⟩) 1 1, .slice none 0 0] 36)) (some ⟨w.heap.size + 1, 0, none⟩) (pR w.heap.size) := by
  refine ⟨fun _ => ⟨w.heap.size + 1, 0, rfl, fun i hi => ?_⟩, fun r hr => ?_⟩
  · match i, hi with
    | 0, _ => simp [go_sem, pR, Row.v]
    | 1, _ => simp [go_sem, pR, Row.v]
  · simp [pR] at hr
    rcases hr with rfl | rfl
    · exact fun _ => ⟨w.heap.size, 0, rfl, fun i hi => by
        match i, hi with
        | 0, _ => simp [go_sem]⟩
    · exact fun h => by simp at h
theorem bR_in (b c : Nat) : ∀ r ∈ bR b ++ pR c, r.ns.length ≤ maxLen := fun r hr => by
  unfold maxLen
  simp [bR, pR] at hr
  rcases hr with rfl | rfl | rfl | rfl | rfl | rfl <;> simp
set_option maxHeartbeats 4000000 in
theorem proofBegun_any (w : World) : Calls Try.prog 30 #[] w fun e w' => e = .returned (.bool true) ∧ Below w.heap.size w w' := by
  have HB1 : Hid (Below w.heap.size w (bW w)) := bal (bal (bal (bal (bal (bal (Below.refl _ _) _) _) _) _) _) _
  have HC1 := hide (b_cl w)
  have x0 : (bW w).cell? ⟨w.heap.size + 1 + 1 + 1 + 1 + 1, 0, none⟩ = some (.int .i64 2) := by simp [go_sem]
  have x1 : (bW w).cell? ⟨w.heap.size + 1 + 1 + 1 + 1 + 1, 1, none⟩ = some (.slice (some ⟨w.heap.size + 1 + 1 + 1 + 1, 0, none⟩) 4 4) := by simp [go_sem]
  go_enter Try.func30, Try.ntmps30
  go_upto_region 2 with fail
  generalize hw1 : bW w = w1 at *
  unfold bW at hw1
  rw [hw1]
  clear hw1
  generalize hb0 : w.heap.size = b0 at *
  generalize hb1 : b0 + 1 + 1 + 1 + 1 + 1 = b1 at *
  generalize hb4 : b0 + 1 + 1 + 1 + 1 = b4 at *
  have hb2 : Below w1.heap.size w1 ((w1.alloc (.cells #[.int .i64 1] 3)).alloc (.cells #[.slice (some ⟨w1.heap.size, 0, none⟩) 1 1, .slice none 0 0] 36)) := bal (bal (Below.refl _ _) _) _
  have HCK := hide (checkP_any 2 (some ⟨b4, 0, none⟩) (some ⟨w1.heap.size + 1, 0, none⟩) 4 2 (bR b0) (pR w1.heap.size) (by simp [bR, pR]) (bR_in _ _) (fun h => by cases h) (fun h => by cases h) _ (HC1.out.later hb2) (p_cl w1))
  have HBA : Hid (Below b0 w ((w1.alloc (.cells #[.int .i64 1] 3)).alloc (.cells #[.slice (some ⟨w1.heap.size, 0, none⟩) 1 1, .slice none 0 0] 36))) := HB1.out.trans (hb2.mono (by have := HB1.out.size; omega))
  have y0 := cell_later hb2 x0
  have y1 := cell_later hb2 x1
  rw [bR_nums, pR_nums] at HCK
  simp only [bR, pR, List.length_cons, List.length_nil] at HCK
  clear hb2
  go_wp2_with fail
  refine HCK.out.mono ?_
  unfold CkOut
  rintro e w2 ⟨b, rfl, hb, hbel⟩
  obtain rfl : b = true := hb.2 ⟨b_chk, b_prf⟩
  rw [b_chk]
  have HB2 : Hid (Below b0 w w2) := HBA.out.trans (hbel.mono (by have := HBA.out.size; omega))
  have z0 := cell_later hbel y0
  have z1 := cell_later hbel y1
  have HFW := hide (followsW_any 2 (some ⟨b4, 0, none⟩) none 4 0 (bR b0) [] (by simp [bR]) (fun r hr => bR_in b0 0 r (List.mem_append.2 (.inl hr))) (by simp) w2 ((HC1.out.later (show Below w1.heap.size w1 w2 from ?hb)) ) (fun h => by simp at h))
  case hb => exact (bal (bal (Below.refl _ _) _) _ : Below w1.heap.size w1 ((w1.alloc (.cells #[.int .i64 1] 3)).alloc (.cells #[.slice (some ⟨w1.heap.size, 0, none⟩) 1 1, .slice none 0 0] 36))).trans (hbel.mono (by simp; omega))
  rw [bR_nums] at HFW
  simp only [bR, List.length_cons, List.length_nil] at HFW
  clear hb hbel y0 y1 x0 x1 HCK HBA
  go_wp2_with fail
  refine HFW.out.mono ?_
  unfold FwOut
  rintro e w3 ⟨b, rfl, hb, hbel⟩
  obtain rfl : b = false := by
    cases b with
    | false => rfl
    | true => exact absurd (hb.1 rfl).2 b_no
  rw [b_fol]
  have HB3 : Hid (Below b0 w w3) := HB2.out.trans (hbel.mono (by have := HB2.out.size; omega))
  clear hb hbel z0 z1 HFW
  go_wp2_with fail
  go_ret
  exact ⟨rfl, by rw [hb0]; exact HB3.out⟩
end Go.Proofs.Ytabnimgpednhjab.Pf
