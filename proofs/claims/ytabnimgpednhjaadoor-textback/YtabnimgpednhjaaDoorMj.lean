/- Are two pairs of one state? -/
import Derived.Test.YtabnimgpednhjaaDoorMi
import Derived.Maps.OwnOps
import Derived.Maps.OwnSet
namespace Go.Proofs.YtabnimgpednhjaaDoor.Ev
open Go.RowKit Go.Maps
set_option maxRecDepth 100000

theorem law3 : Keyed Tryd.prog 3 := int_keyed Tryd.underlying3
theorem zero3 (w : World) : (zeroValue 3).run Tryd.prog w = .ok (.int .i64 0) w := by kernel_rfl

/-- What lies at a list of pairs. -/
def PairsAt (w : World) (p : Option Addr) (l : List (Int × Int)) : Prop :=
  0 < l.length → ∃ b off, p = some ⟨b, off, none⟩ ∧ ∀ (i : Nat) (h : i < l.length), w.cell? ⟨b, off + i * 2, none⟩ = some (.int .i64 l[i].1) ∧ w.cell? ⟨b, off + i * 2 + 1, none⟩ = some (.int .i64 l[i].2)

theorem PairsAt.later {w w1 : World} {p : Option Addr} {l : List (Int × Int)} (h : PairsAt w p l) (hb : Below w.heap.size w w1) : PairsAt w1 p l := by
  intro h0
  obtain ⟨b, off, hp, hc⟩ := h h0
  exact ⟨b, off, hp, fun i hi => ⟨cell_later hb (hc i hi).1, cell_later hb (hc i hi).2⟩⟩

/-- Is a number there twice? -/
def dup : List Int → Bool
  | [] => false
  | x :: l => l.contains x || dup l

theorem dup_snoc (l : List Int) (x : Int) : dup (l ++ [x]) = (dup l || l.contains x) := by
  induction l with
  | nil => simp [dup]
  | cons a l ih =>
    simp only [List.cons_append, dup, ih, List.contains_append, List.contains_cons, List.contains_nil]
    have e : (x == a) = (a == x) := by rw [Bool.eq_iff_iff, beq_iff_eq, beq_iff_eq]; exact ⟨Eq.symm, Eq.symm⟩
    rw [e]
    cases dup l <;> cases l.contains x <;> cases l.contains a <;> cases (a == x) <;> rfl

theorem lit_inj {c d : Int} (h : (DataW.lit (.int .i64 c) : DataW Unit) = .lit (.int .i64 d)) : c = d := by
  injection h with h
  injection h

def has01 (l : List Int) (x : Int) : Int := if l.contains x then 1 else 0

theorem dup_mono (l r : List Int) (h : dup l = true) : dup (l ++ r) = true := by
  induction l with
  | nil => simp [dup] at h
  | cons a l ih =>
    simp only [dup, Bool.or_eq_true] at h
    simp only [List.cons_append, dup, Bool.or_eq_true]
    rcases h with h | h
    · left; simp at h ⊢; exact Or.inl h
    · right; exact ih h

def fsts (l : List (Int × Int)) : List Int := l.map (·.1)
theorem fsts_take (l : List (Int × Int)) (k : Nat) (h : k < l.length) : fsts (l.take (k + 1)) = fsts (l.take k) ++ [l[k].1] := by
  unfold fsts
  rw [List.take_succ_eq_append_getElem h]
  simp only [List.map_append, List.map_cons, List.map_nil]

theorem cb01 {D : DataW Unit} {s c v h : Int} (hv : h = v) (hat : D.atKey (.int .i64 s) (.lit (.int .i64 0)) = .lit (.int .i64 c)) (hh : D.atKey (.int .i64 s) (.lit (.int .i64 0)) = .lit (.int .i64 h)) : v ≤ c ∧ c ≤ v := by
  rw [hat] at hh
  have := lit_inj hh
  omega
theorem cb02 {D : DataW Unit} {s c d : Int} (hm : IsMap D) (hat : (D.put (.int .i64 s) (.lit (.int .i64 d))).atKey (.int .i64 s) (.lit (.int .i64 0)) = .lit (.int .i64 c)) : d ≤ c ∧ c ≤ d := by
  rw [atKey_put_same hm (k := .int .i64 s) trivial] at hat
  have := lit_inj hat
  omega

set_option maxRecDepth 100000 in
set_option maxHeartbeats 2000000 in
theorem twice_any (p : Option Addr) (cap : Nat) (l : List (Int × Int)) (hl : l.length ≤ 8796093022208) (hs : ∀ (i : Nat) (h : i < l.length), 0 ≤ l[i].1 ∧ l[i].1 < 80) (w : World) (hP : PairsAt w p l) :
    Calls Tryd.prog 41 #[.slice p l.length cap] w fun e w' => e = .returned (.bool (dup (fsts l))) ∧ Below w.heap.size w w' := by
  have hmm := @run_makeMap Tryd.prog
  have HS : Hid _ := hs
  clear hs
  go_enter Tryd.func41, Tryd.ntmps41
  go_wp2
  go_loopw [9] (fun i wr => ∃ k : Nat, k ≤ l.length ∧ i = .int .i64 k ∧ Below w.heap.size w wr ∧ ∃ D : DataW Unit, wr.ownsMap Tryd.prog 3 (plainElem Tryd.prog 3) w.heap.size k D ∧ Hid (dup (fsts (l.take k)) = false ∧ ∀ x : Int, D.atKey (.int .i64 x) (.lit (.int .i64 0)) = .lit (.int .i64 (has01 (fsts (l.take k)) x)))) (fun i _ => l.length - (intOf i).toNat)
  case atStart => exact ⟨0, Nat.zero_le _, rfl, bal (Below.refl _ _) _, .map [], World.ownsMap_made _ _ _ _, rfl, fun x => rfl⟩
  case round =>
    obtain ⟨k, hk, rfl, hbw, D, hown, hD⟩ := hrel
    by_cases hlt : k < l.length
    · obtain ⟨b, off, rfl, hc⟩ := (hP.later hbw) (by omega)
      obtain ⟨c0, c1⟩ := hc k hlt
      have hsk := HS.out k hlt
      have HF : Hid _ := fsts_take l k hlt
      clear hc
      generalize l[k] = pr at *
      obtain ⟨s, y⟩ := pr
      simp only at *
      have hkey : keyOf Tryd.prog 3 (.int .i64 s) = some (.int .i64 s) := keyOf_int_mk Tryd.underlying3 (WalkArith.wf_i64 (by omega))
      have hlw := hown.lt
      cases hcn : (fsts (l.take k)).contains s
      · have H01 : Hid (has01 (fsts (l.take k)) s = 0) := by unfold has01; rw [hcn]; rfl
        have HN : Hid _ := hcn
        clear hcn
        go_wp2_with (first
          | (at_lookup; refine wpList_lookup_own_int _ rfl _ _ 112 rfl 3 3 .i64 law3 Tryd.underlying112 Tryd.underlying3 (zero3 _) w.heap.size k _ rfl (hown.alloc _) _ _ rfl hkey ?_; intro c hat hwc; have hcb : 0 ≤ c ∧ c ≤ 0 := cb01 H01.out hat (hD.out.2 s))
          | (at_mapUpdate; refine wpList_mapUpdate_own _ rfl _ _ _ 112 rfl 3 3 law3 Tryd.underlying112 _ w.heap.size k _ rfl (hown.alloc _) (by unfold maxLen; omega) _ _ _ rfl rfl hkey _ [] (plainElem_int Tryd.underlying3 (WalkArith.wf_i64 (by omega))) ?_; intro w1 hown1 hgrow1; have d0 : w1.cell? ⟨wr.heap.size, 0, none⟩ = some (.int .i64 s) := hgrow1.cell (by simp [go_sem]) (by simp; omega))
          | (at_lookup; refine wpList_lookup_own_int _ rfl _ _ 112 rfl 3 3 .i64 law3 Tryd.underlying112 Tryd.underlying3 (zero3 _) w.heap.size (k + 1) _ rfl hown1 _ _ rfl hkey ?_; intro c2 hat2 hwc2; have hcb2 : c + 1 ≤ c2 ∧ c2 ≤ c + 1 := cb02 hown.isMap hat2))
        have hnew : Hid (dup (fsts (l.take (k + 1))) = false ∧ ∀ x : Int, (D.put (.int .i64 s) (.lit (.int .i64 (c + 1)))).atKey (.int .i64 x) (.lit (.int .i64 0)) = .lit (.int .i64 (has01 (fsts (l.take (k + 1))) x))) := by
          rw [HF.out]
          refine ⟨by rw [dup_snoc, hD.out.1, HN.out]; rfl, fun x => ?_⟩
          by_cases hx : x = s
          · subst hx
            rw [atKey_put_same hown.isMap (k := .int .i64 x) trivial]
            have : has01 (fsts (l.take k) ++ [x]) x = 1 := by simp [has01]
            rw [this, show c + 1 = 1 from by omega]
          · rw [atKey_put_other (by simpa using hx), hD.out.2 x]
            congr 2
            simp [has01, hx]
        have hbn : Below w.heap.size w w1 := (bal hbw _).grown hgrow1 (by simp; omega) (fun j hj => by cases hj; exact Nat.le_refl _)
        go_roundw
        case rel => exact ⟨k + 1, by omega, by go_num, hbn, _, hown1, hnew⟩
        case measure => simp [intOf]; omega
      · have H01 : Hid (has01 (fsts (l.take k)) s = 1) := by unfold has01; rw [hcn]; rfl
        have HE : Hid (dup (fsts l) = true) := by
          have h1 : dup (fsts (l.take (k + 1))) = true := by rw [HF.out, dup_snoc, hcn]; simp
          have h2 : fsts l = fsts (l.take (k + 1)) ++ fsts (l.drop (k + 1)) := by unfold fsts; rw [← List.map_append, List.take_append_drop]
          rw [h2]; exact dup_mono _ _ h1
        clear hcn
        go_wp2_with (first
          | (at_lookup; refine wpList_lookup_own_int _ rfl _ _ 112 rfl 3 3 .i64 law3 Tryd.underlying112 Tryd.underlying3 (zero3 _) w.heap.size k _ rfl (hown.alloc _) _ _ rfl hkey ?_; intro c hat hwc; have hcb : 1 ≤ c ∧ c ≤ 1 := cb01 H01.out hat (hD.out.2 s))
          | (at_mapUpdate; refine wpList_mapUpdate_own _ rfl _ _ _ 112 rfl 3 3 law3 Tryd.underlying112 _ w.heap.size k _ rfl (hown.alloc _) (by unfold maxLen; omega) _ _ _ rfl rfl hkey _ [] (plainElem_int Tryd.underlying3 (WalkArith.wf_i64 (by omega))) ?_; intro w1 hown1 hgrow1; have d0 : w1.cell? ⟨wr.heap.size, 0, none⟩ = some (.int .i64 s) := hgrow1.cell (by simp [go_sem]) (by simp; omega))
          | (at_lookup; refine wpList_lookup_own_int _ rfl _ _ 112 rfl 3 3 .i64 law3 Tryd.underlying112 Tryd.underlying3 (zero3 _) w.heap.size (k + 1) _ rfl hown1 _ _ rfl hkey ?_; intro c2 hat2 hwc2; have hcb2 : c + 1 ≤ c2 ∧ c2 ≤ c + 1 := cb02 hown.isMap hat2))
        have hbn : Below w.heap.size w w1 := (bal hbw _).grown hgrow1 (by simp; omega) (fun j hj => by cases hj; exact Nat.le_refl _)
        go_ret
        exact ⟨ret_bool HE.out.symm, hbn⟩
    · obtain rfl : k = l.length := by omega
      have HE : Hid (dup (fsts l) = false) := by have := hD.out.1; rwa [List.take_length] at this
      go_wp2
      go_ret
      exact ⟨ret_bool HE.out.symm, hbw⟩

end Go.Proofs.YtabnimgpednhjaaDoor.Ev
