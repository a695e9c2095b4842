/- A line of the text is read: a node's. -/
import Derived.Test.YtabnimgpednhjaaGreatDoorJx
namespace Go.Proofs.YtabnimgpednhjaaGreatDoor
open Go.RowKit Go.Deep
set_option maxRecDepth 100000

set_option maxHeartbeats 4000000 in
theorem line_node (R : Nat) (arr : Array Value) (last : Nat) (p : Option Addr) (a : ByteArray) (r : List ByteArray) (w : World) (hSW : SW w) (hS : StrsAt w p (a :: r)) (hR : w.heap[R]? = some (.cells arr 65 (0, 0))) (hlast : arr[5]? = some (.int .i64 last)) (hs0 : sortN a = 0) (hlow : last = 0) (b : Bool) (Q : World → Prop)
    (hC : Calls Tryz.prog 49 #[.pointer (some ⟨R, 0, none⟩), .slice p (r.length + 1) (r.length + 1)] (w.setCell ⟨R, 5, none⟩ (.int .i64 0)).drew fun e w' => e = .returned (.bool b) ∧ Q w') :
    Calls Tryz.prog 27 #[.pointer (some ⟨R, 0, none⟩), .slice p (r.length + 1) (r.length + 1)] w fun e w' => e = .returned (.bool b) ∧ Q w' := by
  obtain ⟨n, hn⟩ : ∃ n, r.length = n := ⟨_, rfl⟩
  rw [hn] at hC ⊢
  clear hn
  obtain ⟨g, off, rfl, hc⟩ := hS.cell (by simp)
  have c0 := hc 0 (by simp)
  simp only [List.getElem_cons_zero, Nat.add_zero] at c0
  have hl0 : (0 : Int) < (n : Int) + 1 := by omega
  have HK := hide (sortOf_any a w.drew hSW)
  rw [hs0, show (((0 : Nat) : Nat) : Int) = 0 from rfl] at HK
  subst hlow
  have d0 : w.drew.cell? ⟨g, off, none⟩ = some (.string a) := c0
  have d1 : w.drew.cell? ⟨R, 5, none⟩ = some (.int .i64 0) := (Lib.cell_of_heap hR 5).trans hlast
  have f1 : w.drew.frozen? ⟨R, 5, none⟩ = false := Lib.frozen_of_heap hR 5
  have d5 : (w.setCell ⟨R, 5, none⟩ (.int .i64 0)).drew.cell? ⟨R, 5, none⟩ = some (.int .i64 0) := World.cell?_setCell_same w _ _ d1
  have HC := hide hC
  clear hS hc hSW hs0 hR hlast hC
  go_enter Tryz.func27, Tryz.ntmps27
  go_wp2_with fail
  go_region_held3 (fun w' => w'.cell? ⟨g, off, none⟩ = some (.string a) ∧ w'.cell? ⟨R, 5, none⟩ = some (.int .i64 0))
    (first | exact ⟨d0, d1⟩ | go_keep)
    ((go_at_call 46; refine HK.out.mono ?_; rintro e w1 ⟨rfl, rfl⟩))
  go_wp2_with fail
  refine HK.out.mono ?_
  rintro e w1 ⟨rfl, rfl⟩
  go_wp2_with fail
  refine HC.out.mono ?_
  rintro e w2 ⟨rfl, hq⟩
  have HQ := hide hq
  clear hq
  go_wp2_with fail
  go_ret
  exact ⟨rfl, HQ.out⟩
end Go.Proofs.YtabnimgpednhjaaGreatDoor

namespace Go.Proofs.YtabnimgpednhjaaGreatDoor
open Go.RowKit Go.Deep
set_option maxRecDepth 100000

/-- The reader holds a model. -/
def Holds (w : World) (base R : Nat) (m : Md) : Prop := ∃ v0 v1 v2 v3 v4, Rm w base R v0 v1 v2 v3 v4 m.ns m.is m.xs m.bs m.hs m.last
/-- What a line's reading ends with. -/
def LineOut (base R : Nat) (o : Option Md) (w : World) (e : Ending) (w' : World) : Prop := e = .returned (.bool o.isSome) ∧ Below base w w' ∧ ∀ m', o = some m' → Holds w' base R m'
def Md.few (m : Md) : Prop := m.ns.length ≤ 100000 ∧ m.is.length ≤ 100000 ∧ m.xs.length ≤ 100000 ∧ m.bs.length ≤ 100000 ∧ m.hs.length ≤ 100000

theorem line_any1 (base R : Nat) (m : Md) (hf : m.few) (p : Option Addr) (a : ByteArray) (r : List ByteArray) (hrl : r.length ≤ 100000) (w : World) (hbs : base ≤ w.heap.size) (hSW : SW w) (hS : StrsAt w p (a :: r)) (hM : Holds w base R m) (hs0 : sortN a = 1) (hlow : ¬ sortN a < m.last) :
    Calls Tryz.prog 27 #[.pointer (some ⟨R, 0, none⟩), .slice p (r.length + 1) (r.length + 1)] w (LineOut base R (m.line (a :: r)) w) := by
  obtain ⟨v0, v1, v2, v3, v4, hM⟩ := hM
  rw [hs0] at hlow
  by_cases hr : readB r 2 = true
  · obtain ⟨x, y, hta⟩ := readB_two hr
    have e : m.line (a :: r) = some { m with is := m.is ++ [(x, y)], last := 1 } := by simp [Md.line, hs0, hlow, hta]
    rw [e]
    refine (line_ok1 base R v0 v1 v2 v3 v4 m.ns m.is m.xs m.bs m.hs m.last p a r hrl hf.2.1 x y w hbs hSW hS hM hs0 (by omega) hta).mono ?_
    rintro e w' ⟨rfl, v', h1, h2⟩
    exact ⟨rfl, h2, fun m' h => by cases h; exact ⟨v0, v', v2, v3, v4, h1⟩⟩
  · have e : m.line (a :: r) = none := by
      simp only [Md.line, hs0, hlow, if_false]
      split
      · rename_i hta
        exact absurd (by unfold readB; rw [hta]; rfl) hr
      · rfl
    rw [e]
    refine (line_no1 base R v0 v1 v2 v3 v4 m.ns m.is m.xs m.bs m.hs m.last p a r hrl w hbs hSW hS hM hs0 (by omega) (by simpa using hr)).mono ?_
    rintro e w' ⟨rfl, h2⟩
    exact ⟨rfl, h2, fun m' h => by cases h⟩

theorem line_any2 (base R : Nat) (m : Md) (hf : m.few) (p : Option Addr) (a : ByteArray) (r : List ByteArray) (hrl : r.length ≤ 100000) (w : World) (hbs : base ≤ w.heap.size) (hSW : SW w) (hS : StrsAt w p (a :: r)) (hM : Holds w base R m) (hs0 : sortN a = 2) (hlow : ¬ sortN a < m.last) :
    Calls Tryz.prog 27 #[.pointer (some ⟨R, 0, none⟩), .slice p (r.length + 1) (r.length + 1)] w (LineOut base R (m.line (a :: r)) w) := by
  obtain ⟨v0, v1, v2, v3, v4, hM⟩ := hM
  rw [hs0] at hlow
  by_cases hr : readB r 2 = true
  · obtain ⟨x, y, hta⟩ := readB_two hr
    have e : m.line (a :: r) = some { m with xs := m.xs ++ [(x, y)], last := 2 } := by simp [Md.line, hs0, hlow, hta]
    rw [e]
    refine (line_ok2 base R v0 v1 v2 v3 v4 m.ns m.is m.xs m.bs m.hs m.last p a r hrl hf.2.2.1 x y w hbs hSW hS hM hs0 (by omega) hta).mono ?_
    rintro e w' ⟨rfl, v', h1, h2⟩
    exact ⟨rfl, h2, fun m' h => by cases h; exact ⟨v0, v1, v', v3, v4, h1⟩⟩
  · have e : m.line (a :: r) = none := by
      simp only [Md.line, hs0, hlow, if_false]
      split
      · rename_i hta
        exact absurd (by unfold readB; rw [hta]; rfl) hr
      · rfl
    rw [e]
    refine (line_no2 base R v0 v1 v2 v3 v4 m.ns m.is m.xs m.bs m.hs m.last p a r hrl w hbs hSW hS hM hs0 (by omega) (by simpa using hr)).mono ?_
    rintro e w' ⟨rfl, h2⟩
    exact ⟨rfl, h2, fun m' h => by cases h⟩

theorem line_any3 (base R : Nat) (m : Md) (hf : m.few) (p : Option Addr) (a : ByteArray) (r : List ByteArray) (hrl : r.length ≤ 100000) (w : World) (hbs : base ≤ w.heap.size) (hSW : SW w) (hS : StrsAt w p (a :: r)) (hM : Holds w base R m) (hs0 : sortN a = 3) (hlow : ¬ sortN a < m.last) :
    Calls Tryz.prog 27 #[.pointer (some ⟨R, 0, none⟩), .slice p (r.length + 1) (r.length + 1)] w (LineOut base R (m.line (a :: r)) w) := by
  obtain ⟨v0, v1, v2, v3, v4, hM⟩ := hM
  rw [hs0] at hlow
  by_cases hr : readB r 1 = true
  · obtain ⟨x, hta⟩ := readB_one hr
    have e : m.line (a :: r) = some { m with bs := m.bs ++ [x], last := 3 } := by simp [Md.line, hs0, hlow, hta]
    rw [e]
    refine (line_ok3 base R v0 v1 v2 v3 v4 m.ns m.is m.xs m.bs m.hs m.last p a r hrl hf.2.2.2.1 x w hbs hSW hS hM hs0 (by omega) hta).mono ?_
    rintro e w' ⟨rfl, v', h1, h2⟩
    exact ⟨rfl, h2, fun m' h => by cases h; exact ⟨v0, v1, v2, v', v4, h1⟩⟩
  · have e : m.line (a :: r) = none := by
      simp only [Md.line, hs0, hlow, if_false]
      split
      · rename_i hta
        exact absurd (by unfold readB; rw [hta]; rfl) hr
      · rfl
    rw [e]
    refine (line_no3 base R v0 v1 v2 v3 v4 m.ns m.is m.xs m.bs m.hs m.last p a r hrl w hbs hSW hS hM hs0 (by omega) (by simpa using hr)).mono ?_
    rintro e w' ⟨rfl, h2⟩
    exact ⟨rfl, h2, fun m' h => by cases h⟩

theorem line_any4 (base R : Nat) (m : Md) (hf : m.few) (p : Option Addr) (a : ByteArray) (r : List ByteArray) (hrl : r.length ≤ 100000) (w : World) (hbs : base ≤ w.heap.size) (hSW : SW w) (hS : StrsAt w p (a :: r)) (hM : Holds w base R m) (hs0 : sortN a = 4) (hlow : ¬ sortN a < m.last) :
    Calls Tryz.prog 27 #[.pointer (some ⟨R, 0, none⟩), .slice p (r.length + 1) (r.length + 1)] w (LineOut base R (m.line (a :: r)) w) := by
  obtain ⟨v0, v1, v2, v3, v4, hM⟩ := hM
  rw [hs0] at hlow
  by_cases hr : readB r 1 = true
  · obtain ⟨x, hta⟩ := readB_one hr
    have e : m.line (a :: r) = some { m with hs := m.hs ++ [x], last := 4 } := by simp [Md.line, hs0, hlow, hta]
    rw [e]
    refine (line_ok4 base R v0 v1 v2 v3 v4 m.ns m.is m.xs m.bs m.hs m.last p a r hrl hf.2.2.2.2 x w hbs hSW hS hM hs0 (by omega) hta).mono ?_
    rintro e w' ⟨rfl, v', h1, h2⟩
    exact ⟨rfl, h2, fun m' h => by cases h; exact ⟨v0, v1, v2, v3, v', h1⟩⟩
  · have e : m.line (a :: r) = none := by
      simp only [Md.line, hs0, hlow, if_false]
      split
      · rename_i hta
        exact absurd (by unfold readB; rw [hta]; rfl) hr
      · rfl
    rw [e]
    refine (line_no4 base R v0 v1 v2 v3 v4 m.ns m.is m.xs m.bs m.hs m.last p a r hrl w hbs hSW hS hM hs0 (by omega) (by simpa using hr)).mono ?_
    rintro e w' ⟨rfl, h2⟩
    exact ⟨rfl, h2, fun m' h => by cases h⟩
end Go.Proofs.YtabnimgpednhjaaGreatDoor

namespace Go.Proofs.YtabnimgpednhjaaGreatDoor
open Go.RowKit Go.Deep
set_option maxRecDepth 100000

theorem KW.set {w : World} (h : KW w) {R : Nat} {arr : Array Value} {t : TypeId} {n : Int} (hR : w.heap[R]? = some (.cells arr t (0, 0))) (h5 : arr[5]? = some (.int .i64 n)) (u : Value) : KW (w.setCell ⟨R, 5, none⟩ u).drew := fun k hk => by
  show (w.setCell ⟨R, 5, none⟩ u).cell? ⟨0, k, none⟩ = _
  rw [World.cell?_setCell_other _ _ _ _ (fun e => by
    injection e with e1 e2
    subst e1
    have h1 := h 5 (by omega)
    rw [Lib.cell_of_heap hR, h5] at h1
    cases h1)]
  exact h k hk

theorem line_any0 (base R : Nat) (m : Md) (hf : m.few) (p : Option Addr) (a : ByteArray) (r : List ByteArray) (hrl : r.length ≤ 100000) (w : World) (hbs : base ≤ w.heap.size) (hSW : SW w) (hKW : KW w) (hS : StrsAt w p (a :: r)) (hM : Holds w base R m) (hs0 : sortN a = 0) (hlow : ¬ sortN a < m.last) :
    Calls Tryz.prog 27 #[.pointer (some ⟨R, 0, none⟩), .slice p (r.length + 1) (r.length + 1)] w (LineOut base R (m.line (a :: r)) w) := by
  obtain ⟨v0, v1, v2, v3, v4, hM⟩ := hM
  rw [hs0] at hlow
  have hl0 : m.last = 0 := by omega
  have el : m.line (a :: r) = ({ m with last := 0 } : Md).node (a :: r) := by simp [Md.line, hs0, hlow]
  rw [el]
  have hM5 := (hM.sort 0).later (Below.refl _ _).drew
  have hb5 : Below base w (w.setCell ⟨R, 5, none⟩ (.int .i64 0)).drew := ((Below.refl base w).setCell (p := ⟨R, 5, none⟩) hM.hR _).drew
  have hS5 : StrsAt (w.setCell ⟨R, 5, none⟩ (.int .i64 0)).drew p (a :: r) := strs_set hS hM.c _
  have hK5 : KW (w.setCell ⟨R, 5, none⟩ (.int .i64 0)).drew := hKW.set hM.c rfl _
  have hbs5 : base ≤ (w.setCell ⟨R, 5, none⟩ (.int .i64 0)).drew.heap.size := by simpa using hbs
  refine (line_node R _ m.last p a r w hSW hS hM.c rfl hs0 hl0 (({ m with last := 0 } : Md).node (a :: r)).isSome (fun w' => Below base w w' ∧ ∀ m', ({ m with last := 0 } : Md).node (a :: r) = some m' → Holds w' base R m') ?_).mono (fun e w' h => h)
  change Rm (w.setCell ⟨R, 5, none⟩ (.int .i64 0)).drew base R v0 v1 v2 v3 v4 m.ns m.is m.xs m.bs m.hs 0 at hM5
  generalize (w.setCell ⟨R, 5, none⟩ (.int .i64 0)).drew = W at *
  cases r with
  | nil =>
    have e : ({ m with last := 0 } : Md).node [a] = none := rfl
    rw [e]
    refine (node_short R p [a] (by simp) W).mono ?_
    rintro e w' ⟨rfl, rfl⟩
    exact ⟨rfl, hb5, fun m' h => by cases h⟩
  | cons b rest =>
    have hr2 : rest.length ≤ 100000 := by simp at hrl; omega
    have hF : Fg 47 6 W base R 0 #[v0, v1, v2, v3, v4, .int .i64 ((0 : Nat) : Int)] 65 v0 m.ns.length (flatN m.ns) := ⟨hM5.c, rfl, hM5.r0, hM5.hR⟩
    obtain ⟨pv, cv, hv⟩ := hF.slice
    have hm := hF.cell
    rw [hv] at hm
    by_cases h1 : tellsN a = some (m.ns.length : Int) ∧ kindN b ≠ 0
    · by_cases h2 : readB rest (manyN (kindN b)) = true
      · have e : ({ m with last := 0 } : Md).node (a :: b :: rest) = some { m with last := 0, ns := m.ns ++ [mkNd (kindN b) ((tellAll rest).getD [])] } := by
          simp only [Md.node]
          rw [if_pos ⟨h1.1, h1.2, h2⟩]
        rw [e]
        cases ht : tellAll rest with
        | none => unfold readB at h2; rw [ht] at h2; cases h2
        | some ns =>
          have hnl : ns.length = manyN (kindN b) := by unfold readB at h2; rw [ht] at h2; simpa using h2
          refine (node_ok base R _ v0 m.ns hf.1 p a b rest hr2 ns (mkNd (kindN b) ns) W hbs5 hK5 hS5 hF h1.1 h1.2 ht hnl (nodeA_is _ _ hnl)).mono ?_
          rintro e w' ⟨rfl, v', g1, g2, g3, g4⟩
          exact ⟨rfl, hb5.trans (g3.below hM5.hR hbs5 (fun i hi => (hM5.r0.lt i hi).1)), fun m' h => by cases h; exact ⟨v', v1, v2, v3, v4, hM5.put0 g1 g2 g3⟩⟩
      · have e : ({ m with last := 0 } : Md).node (a :: b :: rest) = none := by
          simp only [Md.node]
          rw [if_neg (fun h => h2 h.2.2)]
        rw [e]
        refine (node_no2 R p a b rest hr2 pv cv m.ns.length W hK5 hS5 hm h1.1 h1.2 (by simpa using h2)).mono ?_
        rintro e w' ⟨rfl, g⟩
        exact ⟨rfl, hb5.trans (g.mono hbs5), fun m' h => by cases h⟩
    · have e : ({ m with last := 0 } : Md).node (a :: b :: rest) = none := by
        simp only [Md.node]
        rw [if_neg (fun h => h1 ⟨h.1, h.2.1⟩)]
      rw [e]
      refine (node_no1 R p a b rest pv cv m.ns.length W hK5 hS5 hm h1).mono ?_
      rintro e w' ⟨rfl, g⟩
      exact ⟨rfl, hb5.trans (g.mono hbs5), fun m' h => by cases h⟩

theorem rline_any (base R : Nat) (m : Md) (hf : m.few) (p : Option Addr) (ws : List ByteArray) (h1 : 1 ≤ ws.length) (hrl : ws.length ≤ 100000) (w : World) (hbs : base ≤ w.heap.size) (hSW : SW w) (hKW : KW w) (hS : StrsAt w p ws) (hM : Holds w base R m) :
    Calls Tryz.prog 27 #[.pointer (some ⟨R, 0, none⟩), .slice p ws.length ws.length] w (LineOut base R (m.line ws) w) := by
  cases ws with
  | nil => simp at h1
  | cons a r =>
    have hr : r.length ≤ 100000 := by simp at hrl; omega
    by_cases hlow : sortN a < m.last
    · have e : m.line (a :: r) = none := by simp [Md.line, hlow]
      rw [e]
      obtain ⟨v0, v1, v2, v3, v4, hM⟩ := hM
      refine (line_low R p a r m.last w hSW hS (by rw [Lib.cell_of_heap hM.c]; rfl) hlow).mono ?_
      rintro e w' ⟨rfl, g⟩
      exact ⟨rfl, g.mono hbs, fun m' h => by cases h⟩
    · have hb := sortN_bd a
      have : sortN a = 0 ∨ sortN a = 1 ∨ sortN a = 2 ∨ sortN a = 3 ∨ sortN a = 4 := by omega
      rcases this with e | e | e | e | e
      · exact line_any0 base R m hf p a r hr w hbs hSW hKW hS hM e hlow
      · exact line_any1 base R m hf p a r hr w hbs hSW hS hM e hlow
      · exact line_any2 base R m hf p a r hr w hbs hSW hS hM e hlow
      · exact line_any3 base R m hf p a r hr w hbs hSW hS hM e hlow
      · exact line_any4 base R m hf p a r hr w hbs hSW hS hM e hlow
end Go.Proofs.YtabnimgpednhjaaGreatDoor

namespace Go.Proofs.YtabnimgpednhjaaGreatDoor
open Go.RowKit Go.Deep
set_option maxRecDepth 100000

theorem flat_at {α : Type} (f : α → List Value) (sz : Nat) (hf : ∀ x, (f x).length = sz) (l : List α) (i j : Nat) (hi : i < l.length) (hj : j < sz) : (l.flatMap f)[i * sz + j]? = (f l[i])[j]? := by
  induction l generalizing i with
  | nil => simp at hi
  | cons x l ih =>
    rw [List.flatMap_cons]
    cases i with
    | zero =>
      rw [List.getElem?_append_left (by rw [hf]; omega)]
      simp
    | succ i =>
      have e : (i + 1) * sz = sz + i * sz := by rw [Nat.add_mul, Nat.one_mul, Nat.add_comm]
      rw [List.getElem?_append_right (by rw [hf]; omega), hf, e, show sz + i * sz + j - sz = i * sz + j by omega, ih i (by simpa using hi)]
      simp
theorem row_at {α : Type} (f : α → List Value) (sz : Nat) (hf : ∀ x, (f x).length = sz) {w : World} {base : Nat} {e : TypeId} {v : Value} {l : List α} (h : w.ownsRow base e sz v l.length (l.flatMap f)) :
    ∃ p c, v = .slice p l.length c ∧ (0 < l.length → ∃ g, p = some ⟨g, 0, none⟩ ∧ ∀ i (hi : i < l.length) j, j < sz → w.cell? ⟨g, i * sz + j, none⟩ = (f l[i])[j]?) := by
  rcases h.2 with ⟨rfl, hz⟩ | ⟨g, cap, cur, rfl, _, hg, h1, h2, h3, h4⟩
  · exact ⟨none, 0, by rw [hz], fun h => by omega⟩
  · refine ⟨_, _, rfl, fun _ => ⟨g, rfl, fun i hi j hj => ?_⟩⟩
    have hlt : i * sz + j < l.length * sz := by
      have h5 : (i + 1) * sz ≤ l.length * sz := Nat.mul_le_mul_right sz hi
      rw [Nat.add_mul, Nat.one_mul] at h5
      omega
    rw [Lib.cell_of_heap hg, ← flat_at f sz hf l i j hi hj, ← h4, List.getElem?_take_of_lt hlt, ← Array.getElem?_toList]
theorem nodes_of {w : World} {base : Nat} {v : Value} {l : List Ev.Nd} (h : w.ownsRow base 47 6 v l.length (flatN l)) : ∃ p c, v = .slice p l.length c ∧ Ev.NodesAt w p l := by
  obtain ⟨p, c, hv, hc⟩ := row_at ndL 6 (fun _ => rfl) h
  refine ⟨p, c, hv, fun h0 => ?_⟩
  obtain ⟨g, hp, hg⟩ := hc h0
  refine ⟨g, 0, hp, fun i hi => ?_⟩
  simp only [Nat.zero_add]
  exact ⟨hg i hi 0 (by omega), hg i hi 1 (by omega), hg i hi 2 (by omega), hg i hi 3 (by omega), hg i hi 4 (by omega), hg i hi 5 (by omega)⟩
theorem pairs_of {w : World} {base : Nat} {v : Value} {l : List (Int × Int)} (h : w.ownsRow base 58 2 v l.length (flatP l)) : ∃ p c, v = .slice p l.length c ∧ Ev.PairsAt w p l := by
  obtain ⟨p, c, hv, hc⟩ := row_at (fun p : Int × Int => [Value.int .i64 p.1, Value.int .i64 p.2]) 2 (fun _ => rfl) h
  refine ⟨p, c, hv, fun h0 => ?_⟩
  obtain ⟨g, hp, hg⟩ := hc h0
  refine ⟨g, 0, hp, fun i hi => ?_⟩
  simp only [Nat.zero_add]
  exact ⟨hg i hi 0 (by omega), hg i hi 1 (by omega)⟩
end Go.Proofs.YtabnimgpednhjaaGreatDoor
