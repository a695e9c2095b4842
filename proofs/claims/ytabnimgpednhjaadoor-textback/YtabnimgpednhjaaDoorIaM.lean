/- A line of the text is read: nodes, and the join. -/
import Derived.Test.YtabnimgpednhjaaDoorJzM
import Derived.Lib.SplitLaws
import Derived.Lib.CutLaws
import Derived.Lib.CountLaws
import Derived.Test.YtabnimgpednhjaaDoorProg
namespace Go.Proofs.YtabnimgpednhjaaDoor
open Go.RowKit Go.Deep
set_option maxRecDepth 100000

theorem KW.set {w : World} (h : KW w) {R : Nat} {arr : Array Value} {t : TypeId} {n : Int} (hR : w.heap[R]? = some (.cells arr t (0, 0))) (h5 : arr[5]? = some (.int .i64 n)) (u : Value) : KW (w.setCell ⟨R, 5, none⟩ u).drew := fun k hk => by
  show (w.setCell ⟨R, 5, none⟩ u).cell? ⟨0, k, none⟩ = _
  rw [World.cell?_setCell_other _ _ _ _ (fun e => by
    injection e with e1 e2
    subst e1
    have h1 := h 5 (by omega)
    rw [Lib.cell_of_heap hR, h5] at h1
    cases h1)]
  exact h k hk

theorem line_any0 (base R : Nat) (m : Md) (hf : m.few) (p : Option Addr) (a : ByteArray) (r : List ByteArray) (hrl : r.length ≤ 100000) (w : World) (hbs : base ≤ w.heap.size) (hSW : SW w) (hKW : KW w) (hS : StrsAt w p (a :: r)) (hM : Holds w base R m) (hs0 : sortN a = 0) (hlow : ¬ sortN a < m.last) :
    Calls Tryd.prog 15 #[.pointer (some ⟨R, 0, none⟩), .slice p (r.length + 1) (r.length + 1)] w (LineOut base R (m.line (a :: r)) w) := by
  obtain ⟨v0, v1, v2, v3, v4, hM⟩ := hM
  rw [hs0] at hlow
  have hl0 : m.last = 0 := by omega
  have el : m.line (a :: r) = ({ m with last := 0 } : Md).node (a :: r) := by simp [Md.line, hs0, hlow]
  rw [el]
  have hM5 := (hM.sort 0).later (Below.refl _ _).drew
  have hb5 : Below base w (w.setCell ⟨R, 5, none⟩ (.int .i64 0)).drew := ((Below.refl base w).setCell (p := ⟨R, 5, none⟩) hM.hR _).drew
  have hS5 : StrsAt (w.setCell ⟨R, 5, none⟩ (.int .i64 0)).drew p (a :: r) := strs_set hS hM.c _
  have hK5 : KW (w.setCell ⟨R, 5, none⟩ (.int .i64 0)).drew := hKW.set hM.c rfl _
  have hbs5 : base ≤ (w.setCell ⟨R, 5, none⟩ (.int .i64 0)).drew.heap.size := by simpa using hbs
  refine (line_node R _ m.last p a r w hSW hS hM.c rfl hs0 hl0 (({ m with last := 0 } : Md).node (a :: r)).isSome (fun w' => Below base w w' ∧ ∀ m', ({ m with last := 0 } : Md).node (a :: r) = some m' → Holds w' base R m') ?_).mono (fun e w' h => h)
  change Rm (w.setCell ⟨R, 5, none⟩ (.int .i64 0)).drew base R v0 v1 v2 v3 v4 m.ns m.is m.xs m.bs m.hs 0 at hM5
  generalize (w.setCell ⟨R, 5, none⟩ (.int .i64 0)).drew = W at *
  cases r with
  | nil =>
    have e : ({ m with last := 0 } : Md).node [a] = none := rfl
    rw [e]
    refine (node_short R p [a] (by simp) W).mono ?_
    rintro e w' ⟨rfl, rfl⟩
    exact ⟨rfl, hb5, fun m' h => by cases h⟩
  | cons b rest =>
    have hr2 : rest.length ≤ 100000 := by simp at hrl; omega
    have hF : Fg 46 6 W base R 0 #[v0, v1, v2, v3, v4, .int .i64 ((0 : Nat) : Int)] 53 v0 m.ns.length (flatN m.ns) := ⟨hM5.c, rfl, hM5.r0, hM5.hR⟩
    obtain ⟨pv, cv, hv⟩ := hF.slice
    have hm := hF.cell
    rw [hv] at hm
    by_cases h1 : tellsN a = some (m.ns.length : Int) ∧ kindN b ≠ 0
    · by_cases h2 : readB rest (manyN (kindN b)) = true
      · have e : ({ m with last := 0 } : Md).node (a :: b :: rest) = some { m with last := 0, ns := m.ns ++ [mkNd (kindN b) ((tellAll rest).getD [])] } := by
          simp only [Md.node]
          rw [if_pos ⟨h1.1, h1.2, h2⟩]
        rw [e]
        cases ht : tellAll rest with
        | none => unfold readB at h2; rw [ht] at h2; cases h2
        | some ns =>
          have hnl : ns.length = manyN (kindN b) := by unfold readB at h2; rw [ht] at h2; simpa using h2
          refine (node_ok base R _ v0 m.ns hf.1 p a b rest hr2 ns (mkNd (kindN b) ns) W hbs5 hK5 hS5 hF h1.1 h1.2 ht hnl (nodeA_is _ _ hnl)).mono ?_
          rintro e w' ⟨rfl, v', g1, g2, g3, g4⟩
          exact ⟨rfl, hb5.trans (g3.below hM5.hR hbs5 (fun i hi => (hM5.r0.lt i hi).1)), fun m' h => by cases h; exact ⟨v', v1, v2, v3, v4, hM5.put0 g1 g2 g3⟩⟩
      · have e : ({ m with last := 0 } : Md).node (a :: b :: rest) = none := by
          simp only [Md.node]
          rw [if_neg (fun h => h2 h.2.2)]
        rw [e]
        refine (node_no2 R p a b rest hr2 pv cv m.ns.length W hK5 hS5 hm h1.1 h1.2 (by simpa using h2)).mono ?_
        rintro e w' ⟨rfl, g⟩
        exact ⟨rfl, hb5.trans (g.mono hbs5), fun m' h => by cases h⟩
    · have e : ({ m with last := 0 } : Md).node (a :: b :: rest) = none := by
        simp only [Md.node]
        rw [if_neg (fun h => h1 ⟨h.1, h.2.1⟩)]
      rw [e]
      refine (node_no1 R p a b rest pv cv m.ns.length W hK5 hS5 hm h1).mono ?_
      rintro e w' ⟨rfl, g⟩
      exact ⟨rfl, hb5.trans (g.mono hbs5), fun m' h => by cases h⟩

theorem rline_any (base R : Nat) (m : Md) (hf : m.few) (p : Option Addr) (ws : List ByteArray) (h1 : 1 ≤ ws.length) (hrl : ws.length ≤ 100000) (w : World) (hbs : base ≤ w.heap.size) (hSW : SW w) (hKW : KW w) (hS : StrsAt w p ws) (hM : Holds w base R m) :
    Calls Tryd.prog 15 #[.pointer (some ⟨R, 0, none⟩), .slice p ws.length ws.length] w (LineOut base R (m.line ws) w) := by
  cases ws with
  | nil => simp at h1
  | cons a r =>
    have hr : r.length ≤ 100000 := by simp at hrl; omega
    by_cases hlow : sortN a < m.last
    · have e : m.line (a :: r) = none := by simp [Md.line, hlow]
      rw [e]
      obtain ⟨v0, v1, v2, v3, v4, hM⟩ := hM
      refine (line_low R p a r m.last w hSW hS (by rw [Lib.cell_of_heap hM.c]; rfl) hlow).mono ?_
      rintro e w' ⟨rfl, g⟩
      exact ⟨rfl, g.mono hbs, fun m' h => by cases h⟩
    · have hb := sortN_bd a
      have : sortN a = 0 ∨ sortN a = 1 ∨ sortN a = 2 ∨ sortN a = 3 ∨ sortN a = 4 := by omega
      rcases this with e | e | e | e | e
      · exact line_any0 base R m hf p a r hr w hbs hSW hKW hS hM e hlow
      · exact line_any1 base R m hf p a r hr w hbs hSW hS hM e hlow
      · exact line_any2 base R m hf p a r hr w hbs hSW hS hM e hlow
      · exact line_any3 base R m hf p a r hr w hbs hSW hS hM e hlow
      · exact line_any4 base R m hf p a r hr w hbs hSW hS hM e hlow
end Go.Proofs.YtabnimgpednhjaaDoor

namespace Go.Proofs.YtabnimgpednhjaaDoor
open Go.RowKit Go.Deep
set_option maxRecDepth 100000

theorem flat_at {α : Type} (f : α → List Value) (sz : Nat) (hf : ∀ x, (f x).length = sz) (l : List α) (i j : Nat) (hi : i < l.length) (hj : j < sz) : (l.flatMap f)[i * sz + j]? = (f l[i])[j]? := by
  induction l generalizing i with
  | nil => simp at hi
  | cons x l ih =>
    rw [List.flatMap_cons]
    cases i with
    | zero =>
      rw [List.getElem?_append_left (by rw [hf]; omega)]
      simp
    | succ i =>
      have e : (i + 1) * sz = sz + i * sz := by rw [Nat.add_mul, Nat.one_mul, Nat.add_comm]
      rw [List.getElem?_append_right (by rw [hf]; omega), hf, e, show sz + i * sz + j - sz = i * sz + j by omega, ih i (by simpa using hi)]
      simp
theorem row_at {α : Type} (f : α → List Value) (sz : Nat) (hf : ∀ x, (f x).length = sz) {w : World} {base : Nat} {e : TypeId} {v : Value} {l : List α} (h : w.ownsRow base e sz v l.length (l.flatMap f)) :
    ∃ p c, v = .slice p l.length c ∧ (0 < l.length → ∃ g, p = some ⟨g, 0, none⟩ ∧ ∀ i (hi : i < l.length) j, j < sz → w.cell? ⟨g, i * sz + j, none⟩ = (f l[i])[j]?) := by
  rcases h.2 with ⟨rfl, hz⟩ | ⟨g, cap, cur, rfl, _, hg, h1, h2, h3, h4⟩
  · exact ⟨none, 0, by rw [hz], fun h => by omega⟩
  · refine ⟨_, _, rfl, fun _ => ⟨g, rfl, fun i hi j hj => ?_⟩⟩
    have hlt : i * sz + j < l.length * sz := by
      have h5 : (i + 1) * sz ≤ l.length * sz := Nat.mul_le_mul_right sz hi
      rw [Nat.add_mul, Nat.one_mul] at h5
      omega
    rw [Lib.cell_of_heap hg, ← flat_at f sz hf l i j hi hj, ← h4, List.getElem?_take_of_lt hlt, ← Array.getElem?_toList]
theorem nodes_of {w : World} {base : Nat} {v : Value} {l : List Ev.Nd} (h : w.ownsRow base 46 6 v l.length (flatN l)) : ∃ p c, v = .slice p l.length c ∧ Ev.NodesAt w p l := by
  obtain ⟨p, c, hv, hc⟩ := row_at ndL 6 (fun _ => rfl) h
  refine ⟨p, c, hv, fun h0 => ?_⟩
  obtain ⟨g, hp, hg⟩ := hc h0
  refine ⟨g, 0, hp, fun i hi => ?_⟩
  simp only [Nat.zero_add]
  exact ⟨hg i hi 0 (by omega), hg i hi 1 (by omega), hg i hi 2 (by omega), hg i hi 3 (by omega), hg i hi 4 (by omega), hg i hi 5 (by omega)⟩
theorem pairs_of {w : World} {base : Nat} {v : Value} {l : List (Int × Int)} (h : w.ownsRow base 61 2 v l.length (flatP l)) : ∃ p c, v = .slice p l.length c ∧ Ev.PairsAt w p l := by
  obtain ⟨p, c, hv, hc⟩ := row_at (fun p : Int × Int => [Value.int .i64 p.1, Value.int .i64 p.2]) 2 (fun _ => rfl) h
  refine ⟨p, c, hv, fun h0 => ?_⟩
  obtain ⟨g, hp, hg⟩ := hc h0
  refine ⟨g, 0, hp, fun i hi => ?_⟩
  simp only [Nat.zero_add]
  exact ⟨hg i hi 0 (by omega), hg i hi 1 (by omega)⟩
end Go.Proofs.YtabnimgpednhjaaDoor

namespace Go.Proofs.YtabnimgpednhjaaDoor
open Go

/-- The pieces of a list, cut at each c. -/
def splitL (c : UInt8) : List UInt8 → List (List UInt8)
  | [] => [[]]
  | b :: l => if b = c then [] :: splitL c l else match splitL c l with | [] => [[b]] | h :: t => (b :: h) :: t
theorem splitL_ne (c : UInt8) (l : List UInt8) : splitL c l ≠ [] := by
  cases l with
  | nil => simp [splitL]
  | cons b l =>
    unfold splitL
    split
    · simp
    · split <;> simp
theorem splitL_yes {b c : UInt8} (l : List UInt8) (h : b = c) : splitL c (b :: l) = [] :: splitL c l := by rw [splitL, if_pos h]
theorem splitL_no {b c : UInt8} {l x : List UInt8} {t : List (List UInt8)} (h : b ≠ c) (hs : splitL c l = x :: t) : splitL c (b :: l) = (b :: x) :: t := by rw [splitL, if_neg h, hs]
theorem splitL_one {c : UInt8} {l : List UInt8} (h : c ∉ l) : splitL c l = [l] := by
  induction l with
  | nil => rfl
  | cons b l ih => exact splitL_no (fun e => h (by rw [e]; exact List.mem_cons_self ..)) (ih (fun e => h (List.mem_cons_of_mem _ e)))
theorem splitL_app {c : UInt8} {x y : List UInt8} (h : c ∉ x) : splitL c (x ++ c :: y) = x :: splitL c y := by
  induction x with
  | nil => exact splitL_yes y rfl
  | cons b x ih => exact splitL_no (l := x ++ c :: y) (fun e => h (by rw [e]; exact List.mem_cons_self ..)) (ih (fun e => h (List.mem_cons_of_mem _ e)))
theorem splitL_snoc (c b : UInt8) (l : List UInt8) : ∀ (p : List (List UInt8)) (q : List UInt8), splitL c l = p ++ [q] → splitL c (l ++ [b]) = if b = c then p ++ [q] ++ [[]] else p ++ [q ++ [b]] := by
  induction l with
  | nil =>
    intro p q h
    have h1 : p = [] ∧ q = [] := by
      cases p with
      | nil => simpa [splitL] using h.symm
      | cons a p => simp [splitL] at h
    obtain ⟨rfl, rfl⟩ := h1
    by_cases hb : b = c
    · simp [splitL, hb]
    · simp [splitL, hb]
  | cons a l ih =>
    intro p q h
    show splitL c (a :: (l ++ [b])) = _
    by_cases ha : a = c
    · rw [splitL_yes l ha] at h
      rw [splitL_yes (l ++ [b]) ha]
      cases p with
      | nil =>
        have := splitL_ne c l
        simp at h
        exact absurd h.2 this
      | cons x p =>
        simp at h
        obtain ⟨rfl, h⟩ := h
        rw [ih p q h]
        split <;> simp
    · cases hs : splitL c l with
      | nil => exact absurd hs (splitL_ne c l)
      | cons x t =>
        rw [splitL_no ha hs] at h
        cases p with
        | nil =>
          simp at h
          obtain ⟨rfl, rfl⟩ := h
          have e := ih [] x (by rw [hs]; rfl)
          by_cases hb : b = c
          · rw [if_pos hb] at e ⊢
            rw [splitL_no ha e]; rfl
          · rw [if_neg hb] at e ⊢
            rw [splitL_no ha e]; rfl
        | cons y p =>
          simp at h
          obtain ⟨rfl, rfl⟩ := h
          have e := ih (x :: p) q (by rw [hs]; rfl)
          by_cases hb : b = c
          · rw [if_pos hb] at e ⊢
            rw [splitL_no ha e]; rfl
          · rw [if_neg hb] at e ⊢
            rw [splitL_no ha e]; rfl
/-- How long a list is, by its pieces. -/
theorem splitL_len (c : UInt8) (l : List UInt8) : ((splitL c l).map List.length).sum + (splitL c l).length = l.length + 1 := by
  induction l with
  | nil => rfl
  | cons b l ih =>
    unfold splitL
    split
    · simp; omega
    · cases hs : splitL c l with
      | nil => exact absurd hs (splitL_ne c l)
      | cons x t => rw [hs] at ih; simp at ih ⊢; omega

theorem index_one (c : UInt8) (l : List UInt8) : (Lib.index l [c] = -1 ∧ splitL c l = [l]) ∨ ∃ i : Nat, Lib.index l [c] = i ∧ i < l.length ∧ splitL c l = l.take i :: splitL c (l.drop (i + 1)) := by
  induction l with
  | nil => exact .inl ⟨rfl, rfl⟩
  | cons b l ih =>
    by_cases hb : b = c
    · refine .inr ⟨0, ?_, by simp, ?_⟩
      · unfold Lib.index
        rw [if_pos (by simp [hb])]
        rfl
      · exact splitL_yes l hb
    · have hp : ¬ ([c].isPrefixOf (b :: l) = true) := by
        simp [Ne.symm hb]
      have hi : Lib.index (b :: l) [c] = if Lib.index l [c] == -1 then -1 else Lib.index l [c] + 1 := by
        rw [Lib.index, if_neg hp]
      have hsp : splitL c (b :: l) = match splitL c l with | [] => [[b]] | h :: t => (b :: h) :: t := by
        rw [splitL, if_neg hb]
      rcases ih with ⟨h1, h2⟩ | ⟨i, h1, h2, h3⟩
      · refine .inl ⟨by rw [hi, h1]; rfl, by rw [hsp, h2]⟩
      · refine .inr ⟨i + 1, ?_, by simpa using h2, by rw [hsp, h3]; rfl⟩
        rw [hi, h1, if_neg (by simp)]
        simp
theorem cut_one (c : UInt8) (l : List UInt8) : (Lib.cut l [c] = (l, [], false) ∧ splitL c l = [l]) ∨ ((Lib.cut l [c]).2.2 = true ∧ splitL c l = (Lib.cut l [c]).1 :: splitL c (Lib.cut l [c]).2.1) := by
  rcases index_one c l with ⟨h1, h2⟩ | ⟨i, h1, _, h3⟩
  · refine .inl ⟨?_, h2⟩
    unfold Lib.cut
    rw [h1, if_neg (by decide)]
  · refine .inr ?_
    have e : Lib.cut l [c] = (l.take i, l.drop (i + 1), true) := by
      unfold Lib.cut
      rw [h1, if_pos (by omega)]
      simp
    rw [e]
    exact ⟨rfl, h3⟩
theorem split_one (c : UInt8) : ∀ (k : Nat) (s : ByteArray), Lib.countB s ⟨#[c]⟩ = k → (Lib.splitB ⟨#[c]⟩ 0 k s).map (·.data.toList) = splitL c s.data.toList := by
  intro k
  induction k with
  | zero =>
    intro s hk
    rcases index_one c s.data.toList with ⟨h1, h2⟩ | ⟨i, h1, _, _⟩
    · rw [h2]; rfl
    · have := Lib.countB_hit s ⟨#[c]⟩ i (Nat.le_refl 1) h1
      omega
  | succ k ih =>
    intro s hk
    rcases index_one c s.data.toList with ⟨h1, h2⟩ | ⟨i, h1, _, h3⟩
    · have := Lib.countB_miss s ⟨#[c]⟩ h1
      omega
    · have hc := Lib.countB_hit s ⟨#[c]⟩ i (Nat.le_refl 1) h1
      have hz : (⟨#[c]⟩ : ByteArray).size = 1 := rfl
      rw [hz] at hc
      rw [Lib.splitB_hit ⟨#[c]⟩ 0 k s i h1, List.map_cons, hz, ih _ (by omega), h3, Nat.add_zero, Lib.extract_from_zero, Lib.extract_to_end]
end Go.Proofs.YtabnimgpednhjaaDoor
