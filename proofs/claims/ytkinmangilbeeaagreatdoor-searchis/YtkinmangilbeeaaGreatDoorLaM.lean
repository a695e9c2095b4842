/- A board: a clause is added; a new board, the walk. -/
import Derived.Test.YtkinmangilbeeaaGreatDoorPsM
import Derived.Test.YtkinmangilbeeaaGreatDoorCeM
import Derived.Test.YtkinmangilbeeaaGreatDoorJh
namespace Go.Proofs.YtkinmangilbeeaaGreatDoor.Pf
open Go.RowKit Go.Maps Go.WideMaps
set_option maxRecDepth 100000

theorem map_empty {H : Type} {w : World} {P : Program} {k : TypeId} {R : Value → Option (DataW H × List MemPlace)} {b : Nat} (h : w.heap[b]? = some (.map #[] 0)) : w.ownsMap P k R b 0 (.map []) := ⟨#[], 0, h, ⟨by simp, Go.MapKept.stamped_empty 0, by simp⟩, Nat.le_refl _, rfl⟩
theorem heap_new (w : World) (o : Obj) : (w.alloc o).heap[w.heap.size]? = some o := (MapKept.heap_alloc w o).1
theorem heap_old (w : World) (o : Obj) {g : Nat} (h : g < w.heap.size) : (w.alloc o).heap[g]? = w.heap[g]? := (bal (Below.refl _ w) o).block g h
theorem size_new (w : World) (o : Obj) : (w.alloc o).heap.size = w.heap.size + 1 := by simp
theorem run_mk103 (w : World) : (Instr.makeMap 62 none).run Tryz.prog w = .ok (.map (some w.heap.size)) (w.alloc (.map #[] 0)) := rfl
theorem run_mk104 (w : World) : (Instr.makeMap 63 none).run Tryz.prog w = .ok (.map (some w.heap.size)) (w.alloc (.map #[] 0)) := rfl
/-- What Add leaves of a board on level 0. -/
def AdOut (w : World) (X : Nat → Prop) (R nS nW : Nat) (V : Int) (L : List (List Int)) (B : Bd) (l : List Int) (e : Ending) (w' : World) : Prop :=
  e = .returned (.tuple #[]) ∧ ∃ B' X' nS' nW', BdAt w' X' R nS' nW' B' ∧ Fr X w w' X' ∧ Inv V (L ++ [l]) (fun _ => False) B' ∧ (B'.level = 0 ∧ B' = B.add (layD B.st l)) ∧ B'.cl.length ≤ B.cl.length + 1 ∧ nS' ≤ nS + 1 ∧ nW' ≤ nW + 2
theorem add_cl (B : Bd) (d : List Int) : (B.add d).cl.length ≤ B.cl.length + 1 := by
  unfold Bd.add
  split
  · simp
  · split
    · simp [Bd.put]
    · simp
theorem addB_any (w : World) (X : Nat → Prop) (R nS nW : Nat) (B : Bd) (hB : BdAt w X R nS nW B) (V : Int) (L : List (List Int)) (hI : Inv V L (fun _ => False) B) (h0 : B.level = 0) (hV : V ≤ 200000) (hcl : B.cl.length ≤ 800000) (hnS : nS ≤ 10000000000000) (hnW : nW ≤ 800000000000000000) (q : Option Addr) (cq : Nat) (l : List Int) (hl : l.length ≤ 200) (hx : ∀ x ∈ l, Num V x) (hA : IntsAt w q l) :
    Calls Tryz.prog 26 #[.pointer (some ⟨R, 0, none⟩), .slice q l.length cq] w (AdOut w X R nS nW V L B l) := by
  obtain ⟨S, W, vc, vs, wk, cg, cc, wv, hM⟩ := hB
  have hmain : Calls Tryz.prog 26 #[.pointer (some ⟨R, 0, none⟩), .slice q l.length cq] w (AddOut w X R S W nS nW B l) := by
    cases l with
    | nil => exact add0_any w X R S W nS nW vc vs wk cg cc wv B hM q cq
    | cons a l =>
      exact add1_any w X R S W nS nW vc vs wk cg cc wv B hM q cq (a :: l) hl (by simp) (fun x h => (hx x h).small hV) hA (by omega) (by have := hI.wf.spLen hV; omega) (by omega) (fun x => by have := hI.wf.wtLen x; omega) (by omega)
  refine hmain.mono ?_
  rintro e w' ⟨rfl, d, X', nS', nW', vc', vs', wk', cg', cc', wv', hLd, hdl, hM', hF, hn1, hn2⟩
  obtain ⟨hi, hl0⟩ := add_ok hI h0 hLd.1 (by omega) hx
  exact ⟨rfl, B.add d, X', nS', nW', ⟨S, W, vc', vs', wk', cg', cc', wv', hM'⟩, hF, hi, ⟨hl0, by rw [← hLd.2]⟩, add_cl B d, hn1, hn2⟩

theorem row_nil (w : World) (base : Nat) (e : TypeId) (sz : Nat) : w.ownsRow base e sz (.slice none 0 0) 0 [] := ⟨by simp, .inl ⟨rfl, rfl⟩⟩
theorem newMb {w : World} {R S W : Nat} (hb : w.heap[R]? = some (.cells #[.slice none 0 0, .slice none 0 0, .int .i64 0, .bool false, .int .i64 0, .map (some S), .map (some W), .int .i64 0] 66 (0, 0))) (hS : w.heap[S]? = some (.map #[] 0)) (hW : w.heap[W]? = some (.map #[] 0)) (hne : S ≠ W) :
    BdAt w (fun g => g = R ∨ g = S ∨ g = W) R 0 0 Bd.nil := by
  have lt : ∀ {g o}, w.heap[g]? = some o → g < w.heap.size := fun h => (Array.getElem?_eq_some_iff.1 h).1
  refine ⟨S, W, .slice none 0 0, .slice none 0 0, 0, fun _ => 0, fun _ => 0, fun _ => .slice none 0 0, hb, ⟨.map [], map_empty hS, soIs_zero⟩, ⟨.map [], map_empty hW, fun x => rfl⟩, row_nil _ _ _ _, row_nil _ _ _ _, fun i hi => by simp [Bd.nil] at hi, fun x => row_nil _ _ _ _, fun i j hi => by simp [Bd.nil] at hi, fun x y g hg => by simp [Value.ownBlock] at hg, hne, .inl rfl, .inr (.inl rfl), .inr (.inr rfl), fun g hg => by simp [Value.ownBlock] at hg, fun g hg => by simp [Value.ownBlock] at hg, fun i hi => by simp [Bd.nil] at hi, fun x g hg => by simp [Value.ownBlock] at hg, fun g hg => ?_⟩
  rcases hg with rfl | rfl | rfl
  · exact lt hb
  · exact lt hS
  · exact lt hW

/-- Clauses that are added, one behind another. -/
def addAll (L : List (List Int)) : Bd := L.foldl (fun B l => B.add (layD B.st l)) Bd.nil
theorem addAll_snoc (L : List (List Int)) (l : List Int) : addAll (L ++ [l]) = (addAll L).add (layD (addAll L).st l) := by simp [addAll, List.foldl_append]
/-- What New leaves. -/
def NewOut (w : World) (V : Int) (L : List (List Int)) (e : Ending) (w' : World) : Prop :=
  ∃ R B X nS nW, e = .returned (.pointer (some ⟨R, 0, none⟩)) ∧ BdAt w' X R nS nW B ∧ Below w.heap.size w w' ∧ (∀ g, X g → w.heap.size ≤ g) ∧ Inv V L (fun _ => False) B ∧ (B.level = 0 ∧ ∃ g f, spreadN g (addAll L) = some (B, f)) ∧ (B.lost = false → B.spread = B.sp.length) ∧ B.cl.length ≤ L.length ∧ nS ≤ 1000000000 ∧ nW ≤ 1000000000000
set_option maxHeartbeats 4000000 in
theorem new_any (V : Int) (hV : V ≤ 200000) (vars : Int) (p : Option Addr) (cap : Nat) (rs : List Row) (hl : rs.length ≤ 800000) (hx : ∀ r ∈ rs, r.ns.length ≤ 200 ∧ ∀ x ∈ r.ns, Num V x) (w : World) (hC : ClAt w p rs) :
    Calls Tryz.prog 24 #[cval vars p rs.length cap] w (NewOut w V (rs.map (·.ns))) := by
  have HX := hide hx
  have HC := hide hC
  clear hx hC
  have h103 := run_mk103
  have h104 := run_mk104
  obtain ⟨n, hn⟩ : ∃ n, rs.length = n := ⟨_, rfl⟩
  rw [hn]
  have hB4 : Below w.heap.size w ((((w.alloc (.cells #[.int .i64 vars, .slice p n cap] 24)).alloc (.map #[] 0)).alloc (.map #[] 0)).alloc (.cells #[.slice none 0 0, .slice none 0 0, .int .i64 0, .bool false, .int .i64 0, .map (some (w.heap.size + 1)), .map (some (w.heap.size + 1 + 1)), .int .i64 0] 66)) := bal (bal (bal (bal (Below.refl _ _) _) _) _) _
  have hbd := newMb (w := (((w.alloc (.cells #[.int .i64 vars, .slice p n cap] 24)).alloc (.map #[] 0)).alloc (.map #[] 0)).alloc (.cells #[.slice none 0 0, .slice none 0 0, .int .i64 0, .bool false, .int .i64 0, .map (some (w.heap.size + 1)), .map (some (w.heap.size + 1 + 1)), .int .i64 0] 66)) (R := w.heap.size + 1 + 1 + 1) (S := w.heap.size + 1) (W := w.heap.size + 1 + 1)
    (by have := heap_new (((w.alloc (.cells #[.int .i64 vars, .slice p n cap] 24)).alloc (.map #[] 0)).alloc (.map #[] 0)) (.cells #[.slice none 0 0, .slice none 0 0, .int .i64 0, .bool false, .int .i64 0, .map (some (w.heap.size + 1)), .map (some (w.heap.size + 1 + 1)), .int .i64 0] 66); rwa [size_new, size_new, size_new] at this)
    (by rw [heap_old _ _ (by rw [size_new, size_new, size_new]; omega), heap_old _ _ (by rw [size_new, size_new]; omega)]; have := heap_new (w.alloc (.cells #[.int .i64 vars, .slice p n cap] 24)) (.map #[] 0); rwa [size_new] at this)
    (by rw [heap_old _ _ (by rw [size_new, size_new, size_new]; omega)]; have := heap_new ((w.alloc (.cells #[.int .i64 vars, .slice p n cap] 24)).alloc (.map #[] 0)) (.map #[] 0); rwa [size_new, size_new] at this) (by omega)
  have HN := hide hn
  have hn8 : n ≤ 800000 := by omega
  clear hn
  go_enter Tryz.func24, Tryz.ntmps24
  go_wp2_with fail
  have hXB : ∀ g, (g = w.heap.size + 1 + 1 + 1 ∨ g = w.heap.size + 1 ∨ g = w.heap.size + 1 + 1) → w.heap.size ≤ g := fun g hg => by omega
  generalize ((((w.alloc (.cells #[.int .i64 vars, .slice p n cap] 24)).alloc (.map #[] 0)).alloc (.map #[] 0)).alloc (.cells #[.slice none 0 0, .slice none 0 0, .int .i64 0, .bool false, .int .i64 0, .map (some (w.heap.size + 1)), .map (some (w.heap.size + 1 + 1)), .int .i64 0] 66)) = w4 at *
  generalize hX0 : (fun g => g = w.heap.size + 1 + 1 + 1 ∨ g = w.heap.size + 1 ∨ g = w.heap.size + 1 + 1) = X0 at *
  have HXB : Hid (∀ g, X0 g → w.heap.size ≤ g) := fun g hg => hXB g (by rw [← hX0] at hg; exact hg)
  have HB4 := hide hB4
  have HBD := hide hbd
  clear hB4 hbd hX0 hXB h103 h104
  generalize w.heap.size + 1 + 1 + 1 = R at *
  go_loopw [13] (fun t wr => ∃ k : Nat, k ≤ n ∧ t = .int .i64 k ∧ Hid (∃ B' X' nS' nW', BdAt wr X' R nS' nW' B' ∧ Fr X0 w4 wr X' ∧ Inv V ((rs.map (·.ns)).take k) (fun _ => False) B' ∧ (B'.level = 0 ∧ B' = addAll ((rs.map (·.ns)).take k)) ∧ B'.cl.length ≤ k ∧ nS' ≤ k ∧ nW' ≤ 2 * k)) (fun t _ => n - (intOf t).toNat)
  case atStart => exact ⟨0, Nat.zero_le _, rfl, Bd.nil, X0, 0, 0, HBD.out, Fr.refl _ _, by rw [List.take_zero]; exact nil_ok V, ⟨rfl, rfl⟩, Nat.le_refl _, Nat.le_refl _, Nat.le_refl _⟩
  case round =>
    obtain ⟨k, hk, rfl, HJ⟩ := hrel
    obtain ⟨B, X, nS, nW, hb, hF, hI, hlv, hcl, hnS, hnW⟩ := HJ.out
    have hbw : Below w.heap.size w wr := by
      have h1 := hF.below (base := w.heap.size) HB4.out.size HXB.out
      exact HB4.out.trans h1
    have hCr := HC.out.later hbw
    by_cases hlt : k < n
    · have hkr : k < rs.length := by have := HN.out; omega
      obtain ⟨b, off, hp, hrow⟩ := hCr.rows (by omega)
      subst hp
      have x0 := hrow k hkr
      have hin := hCr.inn rs[k] (List.getElem_mem hkr)
      obtain ⟨hr1, hr2⟩ := HX.out rs[k] (List.getElem_mem hkr)
      have HAD := hide (addB_any wr X R nS nW B hb V _ hI hlv.1 hV (by omega) (by omega) (by omega) rs[k].at' rs[k].cap rs[k].ns hr1 hr2 hin)
      have htk : (rs.map (·.ns)).take k ++ [rs[k].ns] = (rs.map (·.ns)).take (k + 1) := by
        rw [List.take_succ_eq_append_getElem (by simpa using hkr)]
        simp
      have HTK := hide htk
      have HLV := hide hlv.2
      unfold Row.v at x0
      have hlti : (k : Int) < (n : Int) := by omega
      have HN2 := hide (And.intro hcl (And.intro hnS hnW))
      have HF := hide hF
      clear hrow hin hr1 hr2 htk hb hF hI hlv hcl hnS hnW hCr HJ hbw
      generalize rs[k].ns = ns at *
      generalize rs[k].at' = q at *
      generalize rs[k].cap = c2 at *
      clear hkr
      generalize hm : ns.length = m at *
      go_wp2_with fail
      refine HAD.out.mono ?_
      rintro e w5 ⟨rfl, B5, X5, nS5, nW5, hb5, hF5, hI5, hlv5, hcl5, hnS5, hnW5⟩
      rw [HTK.out] at hI5
      have HJ5 : Hid (∃ B' X' nS' nW', BdAt w5 X' R nS' nW' B' ∧ Fr X0 w4 w5 X' ∧ Inv V ((rs.map (·.ns)).take (k + 1)) (fun _ => False) B' ∧ (B'.level = 0 ∧ B' = addAll ((rs.map (·.ns)).take (k + 1))) ∧ B'.cl.length ≤ k + 1 ∧ nS' ≤ k + 1 ∧ nW' ≤ 2 * (k + 1)) :=
        ⟨B5, X5, nS5, nW5, hb5, HF.out.trans hF5, hI5, ⟨hlv5.1, by rw [← HTK.out, addAll_snoc, ← HLV.out]; exact hlv5.2⟩, by have := HN2.out; omega, by have := HN2.out; omega, by have := HN2.out; omega⟩
      clear hb5 hF5 hI5 hlv5 hcl5 hnS5 hnW5 HAD HTK
      go_wp2_with fail
      go_roundw
      case rel => exact ⟨k + 1, by omega, by go_num, HJ5.out⟩
      case measure => simp [intOf]; omega
    · have hlti : ¬ (k : Int) < (n : Int) := by omega
      have htk : (rs.map (·.ns)).take k = rs.map (·.ns) := List.take_of_length_le (by rw [List.length_map, HN.out]; omega)
      rw [htk] at hI hlv
      have HSP := hide (spread_any wr X R nS nW B hb V _ (fun _ => False) hI hV (by omega) (by omega) (by omega))
      have HF := hide hF
      have HQ := hide (And.intro hlv (And.intro hcl (And.intro hnS hnW)))
      have HSL := hide (hI.wf.spLen hV)
      have HBW := hide hbw
      clear hb hF hI hlv hcl hnS hnW hCr HJ htk hbw
      go_wp2_with fail
      refine HSP.out.mono ?_
      rintro e w5 ⟨f, B5, X5, nS5, nW5, rfl, hb5, hF5, hnS5, hnW5, hsl5, hsp5⟩
      have HE : Hid (NewOut w V (rs.map (·.ns)) (.returned (.pointer (some ⟨R, 0, none⟩))) w5) := by
        have hF6 := HF.out.trans hF5
        have h1 := hF6.below (base := w.heap.size) HB4.out.size HXB.out
        refine ⟨R, B5, X5, nS5, nW5, rfl, hb5, HB4.out.trans h1, fun g hg => ?_, ?_, ⟨hsp5.level.trans HQ.out.1.1, by
          obtain ⟨g, hg⟩ := hsp5.ex
          rw [HQ.out.1.2] at hg
          exact ⟨g, f, hg⟩⟩, ?_, ?_, ?_, ?_⟩
        · by_cases hgs : g < w4.heap.size
          · exact HXB.out g (hF6.fro g hgs hg)
          · have := HB4.out.size; omega
        · by_cases hf : f = -1
          · exact (hsp5.ok hf).1
          · exact ((hsp5.bad hf).2.2 HQ.out.1.1).1
        · intro e0
          by_cases hf : f = -1
          · exact (hsp5.ok hf).2.1
          · rw [((hsp5.bad hf).2.2 HQ.out.1.1).2] at e0; cases e0
        · rw [hsp5.cl, List.length_map]; have := HQ.out.2.1; have := HN.out; omega
        · have := HQ.out.2.2.1; omega
        · have := HQ.out.2.2.2; omega
      clear hb5 hF5 hnS5 hnW5 hsl5 hsp5 HSP
      go_wp2_with fail
      go_ret
      exact HE.out
end Go.Proofs.YtkinmangilbeeaaGreatDoor.Pf

namespace Go.Proofs.YtkinmangilbeeaaGreatDoor.Sr
open Go.RowKit Go.Maps Go.Proofs.YtkinmangilbeeaaGreatDoor.Pf
set_option maxRecDepth 100000

theorem BdAt.apart {w w1 : World} {X : Nat → Prop} {R nS nW : Nat} {B : Bd} (h : BdAt w X R nS nW B) (hs : w.heap.size ≤ w1.heap.size) (hb : ∀ g, X g → w1.heap[g]? = w.heap[g]?) : BdAt w1 X R nS nW B := by
  obtain ⟨S, W, vc, vs, wk, cg, cc, wv, h⟩ := h
  exact ⟨S, W, vc, vs, wk, cg, cc, wv, h.apart hs hb⟩
theorem BdAt.xb {w : World} {X : Nat → Prop} {R nS nW : Nat} {B : Bd} (h : BdAt w X R nS nW B) : ∀ g, X g → g < w.heap.size := by
  obtain ⟨S, W, vc, vs, wk, cg, cc, wv, h⟩ := h
  exact h.xb
theorem isSoB {w : World} {X : Nat → Prop} {R nS nW : Nat} {B : Bd} (h : BdAt w X R nS nW B) (x : Int) (hx : Small x) :
    Calls Tryz.prog 35 #[.pointer (some ⟨R, 0, none⟩), .int .i64 x] w fun e w' => e = .returned (.bool (decide (x ∈ B.st))) ∧ w' = w := by
  obtain ⟨S, W, vc, vs, wk, cg, cc, wv, h⟩ := h
  exact isSo_any R S nS B.st x hx w h.c5 h.so
theorem isNotB {w : World} {X : Nat → Prop} {R nS nW : Nat} {B : Bd} (h : BdAt w X R nS nW B) (x : Int) (hx : Small x) :
    Calls Tryz.prog 36 #[.pointer (some ⟨R, 0, none⟩), .int .i64 x] w fun e w' => e = .returned (.bool (decide (-x ∈ B.st))) ∧ w' = w := by
  obtain ⟨S, W, vc, vs, wk, cg, cc, wv, h⟩ := h
  exact isNot_any R S nS B.st x hx w h.c5 h.so
theorem chooseB {w : World} {X : Nat → Prop} {R nS nW : Nat} {B : Bd} (h : BdAt w X R nS nW B) (n : Int) (hn : Small n) (hno : n ∉ B.st) (hl : B.sp.length ≤ 1000000) (hnS : nS ≤ 1000000000000000) (hlv : 0 ≤ B.level ∧ B.level ≤ 1000000) :
    Calls Tryz.prog 37 #[.pointer (some ⟨R, 0, none⟩), .int .i64 n] w fun e w' => e = .returned (.tuple #[]) ∧ ∃ X', BdAt w' X' R (nS + 1) nW (B.choose n) ∧ Fr X w w' X' := by
  obtain ⟨S, W, vc, vs, wk, cg, cc, wv, h⟩ := h
  refine (choose_any w X R S W nS nW vc vs wk cg cc wv B h n hn hno hl hnS hlv).mono ?_
  rintro e w' ⟨rfl, X', vs', wk', hM, hF⟩
  exact ⟨rfl, X', ⟨S, W, vc, vs', wk', cg, cc, wv, hM⟩, hF⟩
/-- A searcher: its board, its queue, and what else it keeps. -/
structure Sx where
  B : Bd
  Q : Qu
  V : Nat
  most : Int
  lessons : Int
  marks : List Int
  lean : List Int
  round : Int
  left : Int
/-- Where a searcher lies. -/
structure Ser (base : Nat) (w : World) (s : Nat) (XB XQ : Nat → Prop) (R nS nW q gp gw gm gl : Nat) (vh vl vp : Value) (S : Sx) : Prop where
  bk : w.heap[s]? = some (.cells #[.pointer (some ⟨R, 0, none⟩), .pointer (some ⟨q, 0, none⟩), .int .i64 S.V, vl, .int .i64 S.most, vp, .int .i64 S.lessons, .slice (some ⟨gm, 0, none⟩) S.marks.length S.marks.length, .slice (some ⟨gl, 0, none⟩) S.lean.length S.lean.length, .int .i64 S.round, .int .i64 S.left] 82 (0, 0))
  bd : BdAt w XB R nS nW S.B
  qu : Qm w XQ q gp gw vh S.Q
  ma : w.heap[gm]? = some (.cells (S.marks.map (Value.int .i64)).toArray 3 (0, 0))
  ln : w.heap[gl]? = some (.cells (S.lean.map (Value.int .i64)).toArray 3 (0, 0))
  bq : ∀ g, XB g → ¬ XQ g
  sb : ¬ XB s
  sq : ¬ XQ s
  mb : ¬ XB gm
  mq : ¬ XQ gm
  lb : ¬ XB gl
  lq : ¬ XQ gl
  ml : gm ≠ gl
  bx : ∀ g, XB g → base ≤ g
  qx : ∀ g, XQ g → base ≤ g
  sx : base ≤ s
  mx : base ≤ gm
  lx : base ≤ gl
section
variable {base : Nat} {w : World} {s : Nat} {XB XQ : Nat → Prop} {R nS nW q gp gw gm gl : Nat} {vh vl vp : Value} {S : Sx}
theorem Ser.s0 (h : Ser base w s XB XQ R nS nW q gp gw gm gl vh vl vp S) : w.cell? ⟨s, 0, none⟩ = some (.pointer (some ⟨R, 0, none⟩)) := by rw [Lib.cell_of_heap h.bk]; rfl
theorem Ser.s1 (h : Ser base w s XB XQ R nS nW q gp gw gm gl vh vl vp S) : w.cell? ⟨s, 1, none⟩ = some (.pointer (some ⟨q, 0, none⟩)) := by rw [Lib.cell_of_heap h.bk]; rfl
theorem Ser.s2 (h : Ser base w s XB XQ R nS nW q gp gw gm gl vh vl vp S) : w.cell? ⟨s, 2, none⟩ = some (.int .i64 S.V) := by rw [Lib.cell_of_heap h.bk]; rfl
theorem Ser.s3 (h : Ser base w s XB XQ R nS nW q gp gw gm gl vh vl vp S) : w.cell? ⟨s, 3, none⟩ = some vl := by rw [Lib.cell_of_heap h.bk]; rfl
theorem Ser.s4 (h : Ser base w s XB XQ R nS nW q gp gw gm gl vh vl vp S) : w.cell? ⟨s, 4, none⟩ = some (.int .i64 S.most) := by rw [Lib.cell_of_heap h.bk]; rfl
theorem Ser.s5 (h : Ser base w s XB XQ R nS nW q gp gw gm gl vh vl vp S) : w.cell? ⟨s, 5, none⟩ = some vp := by rw [Lib.cell_of_heap h.bk]; rfl
theorem Ser.s6 (h : Ser base w s XB XQ R nS nW q gp gw gm gl vh vl vp S) : w.cell? ⟨s, 6, none⟩ = some (.int .i64 S.lessons) := by rw [Lib.cell_of_heap h.bk]; rfl
theorem Ser.s7 (h : Ser base w s XB XQ R nS nW q gp gw gm gl vh vl vp S) : w.cell? ⟨s, 7, none⟩ = some (.slice (some ⟨gm, 0, none⟩) S.marks.length S.marks.length) := by rw [Lib.cell_of_heap h.bk]; rfl
theorem Ser.s8 (h : Ser base w s XB XQ R nS nW q gp gw gm gl vh vl vp S) : w.cell? ⟨s, 8, none⟩ = some (.slice (some ⟨gl, 0, none⟩) S.lean.length S.lean.length) := by rw [Lib.cell_of_heap h.bk]; rfl
theorem Ser.fz (h : Ser base w s XB XQ R nS nW q gp gw gm gl vh vl vp S) (k : Nat) : w.frozen? ⟨s, k, none⟩ = false := Lib.frozen_of_heap h.bk k
theorem Ser.ss (h : Ser base w s XB XQ R nS nW q gp gw gm gl vh vl vp S) : s < w.heap.size ∧ gm < w.heap.size ∧ gl < w.heap.size := ⟨(Array.getElem?_eq_some_iff.1 h.bk).1, (Array.getElem?_eq_some_iff.1 h.ma).1, (Array.getElem?_eq_some_iff.1 h.ln).1⟩
/-- The board has changed. -/
theorem Ser.board (h : Ser base w s XB XQ R nS nW q gp gw gm gl vh vl vp S) {w1 : World} {XB' : Nat → Prop} {nS' nW' : Nat} {B' : Bd} (hb : BdAt w1 XB' R nS' nW' B') (hF : Fr XB w w1 XB') : Ser base w1 s XB' XQ R nS' nW' q gp gw gm gl vh vl vp { S with B := B' } := by
  have hin : ∀ g, g < w.heap.size → ¬ XB g → ¬ XB' g := fun g hg hn hx => hn (hF.fro g hg hx)
  obtain ⟨hs1, hs2, hs3⟩ := h.ss
  exact ⟨(hF.far s hs1 h.sb).trans h.bk, hb, h.qu.far hF.size fun g hg => hF.far g (h.qu.xb g hg) fun hx => h.bq g hx hg, (hF.far gm hs2 h.mb).trans h.ma, (hF.far gl hs3 h.lb).trans h.ln, fun g hx hq => h.bq g (hF.fro g (h.qu.xb g hq) hx) hq, hin s hs1 h.sb, h.sq, hin gm hs2 h.mb, h.mq, hin gl hs3 h.lb, h.lq, h.ml, fun g hx => by
    by_cases hg : g < w.heap.size
    · exact h.bx g (hF.fro g hg hx)
    · have := h.sx; omega, h.qx, h.sx, h.mx, h.lx⟩
/-- The queue has changed. -/
theorem Ser.queue (h : Ser base w s XB XQ R nS nW q gp gw gm gl vh vl vp S) {w1 : World} {XQ' : Nat → Prop} {vh' : Value} {Q' : Qu} (hq : Qm w1 XQ' q gp gw vh' Q') (hF : Fr XQ w w1 XQ') : Ser base w1 s XB XQ' R nS nW q gp gw gm gl vh' vl vp { S with Q := Q' } := by
  have hin : ∀ g, g < w.heap.size → ¬ XQ g → ¬ XQ' g := fun g hg hn hx => hn (hF.fro g hg hx)
  obtain ⟨hs1, hs2, hs3⟩ := h.ss
  exact ⟨(hF.far s hs1 h.sq).trans h.bk, BdAt.apart h.bd hF.size fun g hg => hF.far g (BdAt.xb h.bd g hg) fun hx => h.bq g hg hx, hq, (hF.far gm hs2 h.mq).trans h.ma, (hF.far gl hs3 h.lq).trans h.ln, fun g hx hq' => h.bq g hx (hF.fro g (BdAt.xb h.bd g hx) hq'), h.sb, hin s hs1 h.sq, h.mb, hin gm hs2 h.mq, h.lb, hin gl hs3 h.lq, h.ml, h.bx, fun g hx => by
    by_cases hg : g < w.heap.size
    · exact h.qx g (hF.fro g hg hx)
    · have := h.sx; omega, h.sx, h.mx, h.lx⟩
theorem Ser.later (h : Ser base w s XB XQ R nS nW q gp gw gm gl vh vl vp S) {w1 : World} (hb : Below w.heap.size w w1) : Ser base w1 s XB XQ R nS nW q gp gw gm gl vh vl vp S := by
  obtain ⟨hs1, hs2, hs3⟩ := h.ss
  exact ⟨(hb.block s hs1).trans h.bk, BdAt.apart h.bd hb.size fun g hg => hb.block g (BdAt.xb h.bd g hg), h.qu.later hb, (hb.block gm hs2).trans h.ma, (hb.block gl hs3).trans h.ln, h.bq, h.sb, h.sq, h.mb, h.mq, h.lb, h.lq, h.ml, h.bx, h.qx, h.sx, h.mx, h.lx⟩
theorem Ser.sl (h : Ser base w s XB XQ R nS nW q gp gw gm gl vh vl vp S) : s ≠ gl := by
  rintro rfl
  have h1 := h.ln
  rw [h.bk] at h1
  injection h1 with h1
  injection h1 with _ h2
  exact absurd h2 (by decide)
/-- What is written into what the searcher leans by. -/
theorem Ser.setL (h : Ser base w s XB XQ R nS nW q gp gw gm gl vh vl vp S) (a : Nat) (x : Int) : Ser base (w.setCell ⟨gl, a, none⟩ (.int .i64 x)) s XB XQ R nS nW q gp gw gm gl vh vl vp { S with lean := S.lean.set a x } := by
  have hset : ∀ k, k ≠ gl → (w.setCell ⟨gl, a, none⟩ (.int .i64 x)).heap[k]? = w.heap[k]? := fun k hk => heap_setCell_other _ _ _ _ (by simpa using hk)
  have hsl : s ≠ gl := by
    rintro rfl
    have h1 := h.ln
    rw [h.bk] at h1
    injection h1 with h1
    injection h1 with _ h2
    exact absurd h2 (by decide)
  refine ⟨?_, BdAt.apart h.bd (by simp) fun g hg => hset g fun e => h.lb (e ▸ hg), h.qu.far (by simp) fun g hg => hset g fun e => h.lq (e ▸ hg), (hset gm h.ml).trans h.ma, ?_, h.bq, h.sb, h.sq, h.mb, h.mq, h.lb, h.lq, h.ml, h.bx, h.qx, h.sx, h.mx, h.lx⟩
  · rw [hset s hsl, h.bk]
    simp
  · rw [heap_setCell_same _ _ _ _ _ _ h.ln, map_set]
theorem Ser.bw (h : Ser base w s XB XQ R nS nW q gp gw gm gl vh vl vp S) {w1 : World} {XB' : Nat → Prop} (hF : Fr XB w w1 XB') : Below base w w1 := hF.below (Nat.le_trans h.sx (Nat.le_of_lt h.ss.1)) h.bx
theorem Ser.qw (h : Ser base w s XB XQ R nS nW q gp gw gm gl vh vl vp S) {w1 : World} {XQ' : Nat → Prop} (hF : Fr XQ w w1 XQ') : Below base w w1 := hF.below (Nat.le_trans h.sx (Nat.le_of_lt h.ss.1)) h.qx
end
end Go.Proofs.YtkinmangilbeeaaGreatDoor.Sr
