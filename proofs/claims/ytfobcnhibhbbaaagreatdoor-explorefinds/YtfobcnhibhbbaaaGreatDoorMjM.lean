/- Pairs of a state and a node. -/
import Derived.Test.YtfobcnhibhbbaaaGreatDoorMh
import Derived.Maps.OwnOps
import Derived.Maps.OwnSet
namespace Go.Proofs.YtfobcnhibhbbaaaGreatDoor.Ev
open Go.RowKit
set_option maxRecDepth 100000

def kdOf (ns : List Nd) (x : Int) : Int := match ns[x.toNat]? with | some y => y.kind | none => 0

theorem kd_wd {w : World} {b off : Nat} {ns : List Nd} (hc : ∀ (i : Nat) (h : i < ns.length),
    w.cell? ⟨b, off + i * 6, none⟩ = some (.int .i64 ns[i].kind) ∧ w.cell? ⟨b, off + i * 6 + 1, none⟩ = some (.int .i64 ns[i].width) ∧
    w.cell? ⟨b, off + i * 6 + 2, none⟩ = some (.int .i64 ns[i].a) ∧ w.cell? ⟨b, off + i * 6 + 3, none⟩ = some (.int .i64 ns[i].b) ∧
    w.cell? ⟨b, off + i * 6 + 4, none⟩ = some (.int .i64 ns[i].c) ∧ w.cell? ⟨b, off + i * 6 + 5, none⟩ = some (.int .i64 ns[i].n)) (x : Int) (h0 : 0 ≤ x) (h1 : x < ns.length) :
    w.cell? ⟨b, off + x.toNat * 6, none⟩ = some (.int .i64 (kdOf ns x)) ∧ w.cell? ⟨b, off + x.toNat * 6 + 1, none⟩ = some (.int .i64 (wdOf ns x)) := by
  refine ⟨?_, wd_cell hc x h0 h1⟩
  rw [(hc x.toNat (by omega)).1]
  unfold kdOf
  rw [List.getElem?_eq_getElem (by omega)]

/-- What a pair is told. -/
def pairE (ns : List Nd) (s x : Int) : Int :=
  if isN ns.length s = false ∨ kdOf ns s ≠ 3 ∨ isN ns.length x = false then 5 else if wdOf ns s ≠ wdOf ns x then 1 else 0

theorem isNode_below (m : Mv) (len : Nat) (hl : len ≤ maxLen) (x : Int) (w : World) :
    Calls Tryz.prog 59 #[m.val len, .int .i64 x] w fun e w' => e = .returned (.bool (isN len x)) ∧ Below w.heap.size w w' :=
  (isNode_any m len hl x w).mono fun _ _ ⟨he, hw⟩ => ⟨he, by rw [hw]; exact bal (Below.refl _ _) _⟩

theorem box5 {w w1 : World} {m : Mv} {l : Nat} {B : Nat} (hb : Below w.heap.size w w1) (h : ∀ i (hi : i < 5), w.cell? ⟨B, i, none⟩ = some ((m.cells l)[i]'(by simpa using hi))) : ∀ i (hi : i < 5), w1.cell? ⟨B, i, none⟩ = some ((m.cells l)[i]'(by simpa using hi)) :=
  fun i hi => cell_later hb (h i hi)

set_option maxRecDepth 100000 in
set_option maxHeartbeats 1000000 in
theorem checkPair_any (m : Mv) (ns : List Nd) (hl : ns.length ≤ 80) (s x : Int) (w : World) (hN : NodesAt w m.a0 ns) :
    Calls Tryz.prog 54 #[m.val ns.length, .agg #[.int .i64 s, .int .i64 x]] w fun e w' => e = .returned (.int .i64 (pairE ns s x)) ∧ Below w.heap.size w w' := by
  obtain ⟨a0, c0, a1, l1, c1, a2, l2, c2, a3, l3, c3, a4, l4, c4⟩ := m
  simp only at hN
  by_cases hs : isN ns.length s = true
  · obtain ⟨s0, s1⟩ := isN_true.1 hs
    obtain ⟨b, off, rfl, hc⟩ := hN (by omega)
    have HC : Hid _ := hc
    clear hc hN
    go_enter Tryz.func54, Tryz.ntmps54
    go_wp2_with fail
    refine (isNode_below ⟨(some ⟨b, off, none⟩), c0, a1, l1, c1, a2, l2, c2, a3, l3, c3, a4, l4, c4⟩ ns.length (by unfold maxLen; omega) s _).mono ?_
    rintro e w1 ⟨rfl, hb1⟩
    have hbA : Below w.heap.size w ((w.alloc (.cells (Mv.cells ⟨(some ⟨b, off, none⟩), c0, a1, l1, c1, a2, l2, c2, a3, l3, c3, a4, l4, c4⟩ ns.length) 26)).alloc (.cells #[.int .i64 s, .int .i64 x] 64)) := bal (bal (Below.refl _ _) _) _
    have m0 := cell_later hb1 (a := ⟨w.heap.size, 0, none⟩) (v := .slice (some ⟨b, off, none⟩) ns.length c0) (by simp [go_sem])
    have m1 := cell_later hb1 (a := ⟨w.heap.size, 1, none⟩) (v := .slice a1 l1 c1) (by simp [go_sem])
    have m2 := cell_later hb1 (a := ⟨w.heap.size, 2, none⟩) (v := .slice a2 l2 c2) (by simp [go_sem])
    have m3 := cell_later hb1 (a := ⟨w.heap.size, 3, none⟩) (v := .slice a3 l3 c3) (by simp [go_sem])
    have m4 := cell_later hb1 (a := ⟨w.heap.size, 4, none⟩) (v := .slice a4 l4 c4) (by simp [go_sem])
    have p0 := cell_later hb1 (a := ⟨w.heap.size + 1, 0, none⟩) (v := .int .i64 s) (by simp [go_sem])
    have p1 := cell_later hb1 (a := ⟨w.heap.size + 1, 1, none⟩) (v := .int .i64 x) (by simp [go_sem])
    have hbw := bthen hbA hb1
    have hS := kd_wd HC.out s s0 s1
    have ks := cell_later hbw hS.1
    have ws := cell_later hbw hS.2
    clear hS hb1 hbA
    by_cases h3 : kdOf ns s = 3
    · have h3' : (kdOf ns s != 3) = false := by simp [h3]
      have H3 : Hid _ := h3
      clear h3
      go_wp2_with fail
      refine (isNode_below ⟨some ⟨b, off, none⟩, c0, a1, l1, c1, a2, l2, c2, a3, l3, c3, a4, l4, c4⟩ ns.length (by unfold maxLen; omega) x _).mono ?_
      rintro e w2 ⟨rfl, hb2⟩
      have k0 := cell_later hb2 m0
      have k1 := cell_later hb2 p0
      have k2 := cell_later hb2 p1
      have k3 := cell_later hb2 ws
      have hbw2 := bthen hbw hb2
      clear m0 m1 m2 m3 m4 p0 p1 ks ws hb2 hbw
      by_cases hx : isN ns.length x = true
      · obtain ⟨x0, x1⟩ := isN_true.1 hx
        have k4 := cell_later hbw2 (kd_wd HC.out x x0 x1).2
        have HE : Hid (pairE ns s x = if wdOf ns s ≠ wdOf ns x then 1 else 0) := by
          unfold pairE; rw [if_neg (by simp [hs, hx, H3.out])]; rfl
        by_cases he : wdOf ns s = wdOf ns x
        · have HE2 : Hid (pairE ns s x = 0) := by rw [HE.out, if_neg (by simp [he])]; rfl
          have he' : (wdOf ns s != wdOf ns x) = false := by simp [he]
          clear he HE
          go_wp2
          go_quiet (fail)
          go_wp2
          go_ret
          exact ⟨ret_int HE2.out.symm, below_drewN hbw2 _⟩
        · have HE2 : Hid (pairE ns s x = 1) := by rw [HE.out, if_pos he]; rfl
          have he' : (wdOf ns s != wdOf ns x) = true := by simp [he]
          clear he HE
          go_wp2
          go_quiet (fail)
          go_wp2
          go_ret
          exact ⟨ret_int HE2.out.symm, below_drewN hbw2 _⟩
      · have hx' : isN ns.length x = false := by simpa using hx
        have HE : Hid (pairE ns s x = 5) := by unfold pairE; rw [if_pos (by simp [hx'])]; rfl
        clear hx
        go_wp2
        go_ret
        exact ⟨ret_int HE.out.symm, hbw2⟩
    · have h3' : (kdOf ns s != 3) = true := by simp [h3]
      have HE : Hid (pairE ns s x = 5) := by unfold pairE; rw [if_pos (by simp [h3])]; rfl
      clear h3
      go_wp2
      go_ret
      exact ⟨ret_int HE.out.symm, hbw⟩
  · have hs' : isN ns.length s = false := by simpa using hs
    have HE : Hid (pairE ns s x = 5) := by unfold pairE; rw [if_pos (by simp [hs'])]; rfl
    clear hs hN
    go_enter Tryz.func54, Tryz.ntmps54
    go_wp2_with fail
    refine (isNode_below ⟨a0, c0, a1, l1, c1, a2, l2, c2, a3, l3, c3, a4, l4, c4⟩ ns.length (by unfold maxLen; omega) s _).mono ?_
    rintro e w1 ⟨rfl, hb1⟩
    have hbA : Below w.heap.size w ((w.alloc (.cells (Mv.cells ⟨a0, c0, a1, l1, c1, a2, l2, c2, a3, l3, c3, a4, l4, c4⟩ ns.length) 26)).alloc (.cells #[.int .i64 s, .int .i64 x] 64)) := bal (bal (Below.refl _ _) _) _
    have m0 := cell_later hb1 (a := ⟨w.heap.size, 0, none⟩) (v := .slice a0 ns.length c0) (by simp [go_sem])
    have m1 := cell_later hb1 (a := ⟨w.heap.size, 1, none⟩) (v := .slice a1 l1 c1) (by simp [go_sem])
    have m2 := cell_later hb1 (a := ⟨w.heap.size, 2, none⟩) (v := .slice a2 l2 c2) (by simp [go_sem])
    have m3 := cell_later hb1 (a := ⟨w.heap.size, 3, none⟩) (v := .slice a3 l3 c3) (by simp [go_sem])
    have m4 := cell_later hb1 (a := ⟨w.heap.size, 4, none⟩) (v := .slice a4 l4 c4) (by simp [go_sem])
    have p0 := cell_later hb1 (a := ⟨w.heap.size + 1, 0, none⟩) (v := .int .i64 s) (by simp [go_sem])
    have p1 := cell_later hb1 (a := ⟨w.heap.size + 1, 1, none⟩) (v := .int .i64 x) (by simp [go_sem])
    have hbw := bthen hbA hb1
    go_wp2
    go_ret
    exact ⟨ret_int HE.out.symm, hbw⟩

end Go.Proofs.YtfobcnhibhbbaaaGreatDoor.Ev

namespace Go.Proofs.YtfobcnhibhbbaaaGreatDoor.Ev
open Go.RowKit Go.Maps
set_option maxRecDepth 100000

theorem law3 : Keyed Tryz.prog 3 := int_keyed Tryz.underlying3
theorem zero3 (w : World) : (zeroValue 3).run Tryz.prog w = .ok (.int .i64 0) w := by kernel_rfl

/-- What lies at a list of pairs. -/
def PairsAt (w : World) (p : Option Addr) (l : List (Int × Int)) : Prop :=
  0 < l.length → ∃ b off, p = some ⟨b, off, none⟩ ∧ ∀ (i : Nat) (h : i < l.length), w.cell? ⟨b, off + i * 2, none⟩ = some (.int .i64 l[i].1) ∧ w.cell? ⟨b, off + i * 2 + 1, none⟩ = some (.int .i64 l[i].2)

theorem PairsAt.later {w w1 : World} {p : Option Addr} {l : List (Int × Int)} (h : PairsAt w p l) (hb : Below w.heap.size w w1) : PairsAt w1 p l := by
  intro h0
  obtain ⟨b, off, hp, hc⟩ := h h0
  exact ⟨b, off, hp, fun i hi => ⟨cell_later hb (hc i hi).1, cell_later hb (hc i hi).2⟩⟩

/-- Is a number there twice? -/
def dup : List Int → Bool
  | [] => false
  | x :: l => l.contains x || dup l

theorem dup_snoc (l : List Int) (x : Int) : dup (l ++ [x]) = (dup l || l.contains x) := by
  induction l with
  | nil => simp [dup]
  | cons a l ih =>
    simp only [List.cons_append, dup, ih, List.contains_append, List.contains_cons, List.contains_nil]
    have e : (x == a) = (a == x) := by rw [Bool.eq_iff_iff, beq_iff_eq, beq_iff_eq]; exact ⟨Eq.symm, Eq.symm⟩
    rw [e]
    cases dup l <;> cases l.contains x <;> cases l.contains a <;> cases (a == x) <;> rfl

theorem lit_inj {c d : Int} (h : (DataW.lit (.int .i64 c) : DataW Unit) = .lit (.int .i64 d)) : c = d := by
  injection h with h
  injection h

def has01 (l : List Int) (x : Int) : Int := if l.contains x then 1 else 0

theorem dup_mono (l r : List Int) (h : dup l = true) : dup (l ++ r) = true := by
  induction l with
  | nil => simp [dup] at h
  | cons a l ih =>
    simp only [dup, Bool.or_eq_true] at h
    simp only [List.cons_append, dup, Bool.or_eq_true]
    rcases h with h | h
    · left; simp at h ⊢; exact Or.inl h
    · right; exact ih h

def fsts (l : List (Int × Int)) : List Int := l.map (·.1)
theorem fsts_take (l : List (Int × Int)) (k : Nat) (h : k < l.length) : fsts (l.take (k + 1)) = fsts (l.take k) ++ [l[k].1] := by
  unfold fsts
  rw [List.take_succ_eq_append_getElem h]
  simp only [List.map_append, List.map_cons, List.map_nil]

theorem cb01 {D : DataW Unit} {s c v h : Int} (hv : h = v) (hat : D.atKey (.int .i64 s) (.lit (.int .i64 0)) = .lit (.int .i64 c)) (hh : D.atKey (.int .i64 s) (.lit (.int .i64 0)) = .lit (.int .i64 h)) : v ≤ c ∧ c ≤ v := by
  rw [hat] at hh
  have := lit_inj hh
  omega
theorem cb02 {D : DataW Unit} {s c d : Int} (hm : IsMap D) (hat : (D.put (.int .i64 s) (.lit (.int .i64 d))).atKey (.int .i64 s) (.lit (.int .i64 0)) = .lit (.int .i64 c)) : d ≤ c ∧ c ≤ d := by
  rw [atKey_put_same hm (k := .int .i64 s) trivial] at hat
  have := lit_inj hat
  omega

set_option maxRecDepth 100000 in
set_option maxHeartbeats 2000000 in
theorem twice_any (p : Option Addr) (cap : Nat) (l : List (Int × Int)) (hl : l.length ≤ 8796093022208) (hs : ∀ (i : Nat) (h : i < l.length), 0 ≤ l[i].1 ∧ l[i].1 < 80) (w : World) (hP : PairsAt w p l) :
    Calls Tryz.prog 55 #[.slice p l.length cap] w fun e w' => e = .returned (.bool (dup (fsts l))) ∧ Below w.heap.size w w' := by
  have hmm := @run_makeMap Tryz.prog
  have HS : Hid _ := hs
  clear hs
  go_enter Tryz.func55, Tryz.ntmps55
  go_wp2
  go_loopw [9] (fun i wr => ∃ k : Nat, k ≤ l.length ∧ i = .int .i64 k ∧ Below w.heap.size w wr ∧ ∃ D : DataW Unit, wr.ownsMap Tryz.prog 3 (plainElem Tryz.prog 3) w.heap.size k D ∧ Hid (dup (fsts (l.take k)) = false ∧ ∀ x : Int, D.atKey (.int .i64 x) (.lit (.int .i64 0)) = .lit (.int .i64 (has01 (fsts (l.take k)) x)))) (fun i _ => l.length - (intOf i).toNat)
  case atStart => exact ⟨0, Nat.zero_le _, rfl, bal (Below.refl _ _) _, .map [], World.ownsMap_made _ _ _ _, rfl, fun x => rfl⟩
  case round =>
    obtain ⟨k, hk, rfl, hbw, D, hown, hD⟩ := hrel
    by_cases hlt : k < l.length
    · obtain ⟨b, off, rfl, hc⟩ := (hP.later hbw) (by omega)
      obtain ⟨c0, c1⟩ := hc k hlt
      have hsk := HS.out k hlt
      have HF : Hid _ := fsts_take l k hlt
      clear hc
      generalize l[k] = pr at *
      obtain ⟨s, y⟩ := pr
      simp only at *
      have hkey : keyOf Tryz.prog 3 (.int .i64 s) = some (.int .i64 s) := keyOf_int_mk Tryz.underlying3 (WalkArith.wf_i64 (by omega))
      have hlw := hown.lt
      cases hcn : (fsts (l.take k)).contains s
      · have H01 : Hid (has01 (fsts (l.take k)) s = 0) := by unfold has01; rw [hcn]; rfl
        have HN : Hid _ := hcn
        clear hcn
        go_wp2_with (first
          | (at_lookup; refine wpList_lookup_own_int _ rfl _ _ 132 rfl 3 3 .i64 law3 Tryz.underlying132 Tryz.underlying3 (zero3 _) w.heap.size k _ rfl (hown.alloc _) _ _ rfl hkey ?_; intro c hat hwc; have hcb : 0 ≤ c ∧ c ≤ 0 := cb01 H01.out hat (hD.out.2 s))
          | (at_mapUpdate; refine wpList_mapUpdate_own _ rfl _ _ _ 132 rfl 3 3 law3 Tryz.underlying132 _ w.heap.size k _ rfl (hown.alloc _) (by unfold maxLen; omega) _ _ _ rfl rfl hkey _ [] (plainElem_int Tryz.underlying3 (WalkArith.wf_i64 (by omega))) ?_; intro w1 hown1 hgrow1; have d0 : w1.cell? ⟨wr.heap.size, 0, none⟩ = some (.int .i64 s) := hgrow1.cell (by simp [go_sem]) (by simp; omega))
          | (at_lookup; refine wpList_lookup_own_int _ rfl _ _ 132 rfl 3 3 .i64 law3 Tryz.underlying132 Tryz.underlying3 (zero3 _) w.heap.size (k + 1) _ rfl hown1 _ _ rfl hkey ?_; intro c2 hat2 hwc2; have hcb2 : c + 1 ≤ c2 ∧ c2 ≤ c + 1 := cb02 hown.isMap hat2))
        have hnew : Hid (dup (fsts (l.take (k + 1))) = false ∧ ∀ x : Int, (D.put (.int .i64 s) (.lit (.int .i64 (c + 1)))).atKey (.int .i64 x) (.lit (.int .i64 0)) = .lit (.int .i64 (has01 (fsts (l.take (k + 1))) x))) := by
          rw [HF.out]
          refine ⟨by rw [dup_snoc, hD.out.1, HN.out]; rfl, fun x => ?_⟩
          by_cases hx : x = s
          · subst hx
            rw [atKey_put_same hown.isMap (k := .int .i64 x) trivial]
            have : has01 (fsts (l.take k) ++ [x]) x = 1 := by simp [has01]
            rw [this, show c + 1 = 1 from by omega]
          · rw [atKey_put_other (by simpa using hx), hD.out.2 x]
            congr 2
            simp [has01, hx]
        have hbn : Below w.heap.size w w1 := (bal hbw _).grown hgrow1 (by simp; omega) (fun j hj => by cases hj; exact Nat.le_refl _)
        go_roundw
        case rel => exact ⟨k + 1, by omega, by go_num, hbn, _, hown1, hnew⟩
        case measure => simp [intOf]; omega
      · have H01 : Hid (has01 (fsts (l.take k)) s = 1) := by unfold has01; rw [hcn]; rfl
        have HE : Hid (dup (fsts l) = true) := by
          have h1 : dup (fsts (l.take (k + 1))) = true := by rw [HF.out, dup_snoc, hcn]; simp
          have h2 : fsts l = fsts (l.take (k + 1)) ++ fsts (l.drop (k + 1)) := by unfold fsts; rw [← List.map_append, List.take_append_drop]
          rw [h2]; exact dup_mono _ _ h1
        clear hcn
        go_wp2_with (first
          | (at_lookup; refine wpList_lookup_own_int _ rfl _ _ 132 rfl 3 3 .i64 law3 Tryz.underlying132 Tryz.underlying3 (zero3 _) w.heap.size k _ rfl (hown.alloc _) _ _ rfl hkey ?_; intro c hat hwc; have hcb : 1 ≤ c ∧ c ≤ 1 := cb01 H01.out hat (hD.out.2 s))
          | (at_mapUpdate; refine wpList_mapUpdate_own _ rfl _ _ _ 132 rfl 3 3 law3 Tryz.underlying132 _ w.heap.size k _ rfl (hown.alloc _) (by unfold maxLen; omega) _ _ _ rfl rfl hkey _ [] (plainElem_int Tryz.underlying3 (WalkArith.wf_i64 (by omega))) ?_; intro w1 hown1 hgrow1; have d0 : w1.cell? ⟨wr.heap.size, 0, none⟩ = some (.int .i64 s) := hgrow1.cell (by simp [go_sem]) (by simp; omega))
          | (at_lookup; refine wpList_lookup_own_int _ rfl _ _ 132 rfl 3 3 .i64 law3 Tryz.underlying132 Tryz.underlying3 (zero3 _) w.heap.size (k + 1) _ rfl hown1 _ _ rfl hkey ?_; intro c2 hat2 hwc2; have hcb2 : c + 1 ≤ c2 ∧ c2 ≤ c + 1 := cb02 hown.isMap hat2))
        have hbn : Below w.heap.size w w1 := (bal hbw _).grown hgrow1 (by simp; omega) (fun j hj => by cases hj; exact Nat.le_refl _)
        go_ret
        exact ⟨ret_bool HE.out.symm, hbn⟩
    · obtain rfl : k = l.length := by omega
      have HE : Hid (dup (fsts l) = false) := by have := hD.out.1; rwa [List.take_length] at this
      go_wp2
      go_ret
      exact ⟨ret_bool HE.out.symm, hbw⟩

end Go.Proofs.YtfobcnhibhbbaaaGreatDoor.Ev
