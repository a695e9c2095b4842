/- A line of the text is read: a node's. -/
import Derived.Test.YtabnimgpednhjaaDoorJx
namespace Go.Proofs.YtabnimgpednhjaaDoor
open Go.RowKit Go.Deep
set_option maxRecDepth 100000

set_option maxHeartbeats 4000000 in
theorem line_node (R : Nat) (arr : Array Value) (last : Nat) (p : Option Addr) (a : ByteArray) (r : List ByteArray) (w : World) (hSW : SW w) (hS : StrsAt w p (a :: r)) (hR : w.heap[R]? = some (.cells arr 53 (0, 0))) (hlast : arr[5]? = some (.int .i64 last)) (hs0 : sortN a = 0) (hlow : last = 0) (b : Bool) (Q : World → Prop)
    (hC : Calls Tryd.prog 32 #[.pointer (some ⟨R, 0, none⟩), .slice p (r.length + 1) (r.length + 1)] (w.setCell ⟨R, 5, none⟩ (.int .i64 0)).drew fun e w' => e = .returned (.bool b) ∧ Q w') :
    Calls Tryd.prog 15 #[.pointer (some ⟨R, 0, none⟩), .slice p (r.length + 1) (r.length + 1)] w fun e w' => e = .returned (.bool b) ∧ Q w' := by
  obtain ⟨n, hn⟩ : ∃ n, r.length = n := ⟨_, rfl⟩
  rw [hn] at hC ⊢
  clear hn
  obtain ⟨g, off, rfl, hc⟩ := hS.cell (by simp)
  have c0 := hc 0 (by simp)
  simp only [List.getElem_cons_zero, Nat.add_zero] at c0
  have hl0 : (0 : Int) < (n : Int) + 1 := by omega
  have HK := hide (sortOf_any a w.drew hSW)
  rw [hs0, show (((0 : Nat) : Nat) : Int) = 0 from rfl] at HK
  subst hlow
  have d0 : w.drew.cell? ⟨g, off, none⟩ = some (.string a) := c0
  have d1 : w.drew.cell? ⟨R, 5, none⟩ = some (.int .i64 0) := (Lib.cell_of_heap hR 5).trans hlast
  have f1 : w.drew.frozen? ⟨R, 5, none⟩ = false := Lib.frozen_of_heap hR 5
  have d5 : (w.setCell ⟨R, 5, none⟩ (.int .i64 0)).drew.cell? ⟨R, 5, none⟩ = some (.int .i64 0) := World.cell?_setCell_same w _ _ d1
  have HC := hide hC
  clear hS hc hSW hs0 hR hlast hC
  go_enter Tryd.func15, Tryd.ntmps15
  go_wp2_with fail
  go_region_held3 (fun w' => w'.cell? ⟨g, off, none⟩ = some (.string a) ∧ w'.cell? ⟨R, 5, none⟩ = some (.int .i64 0))
    (first | exact ⟨d0, d1⟩ | go_keep)
    ((go_at_call 29; refine HK.out.mono ?_; rintro e w1 ⟨rfl, rfl⟩))
  go_wp2_with fail
  refine HK.out.mono ?_
  rintro e w1 ⟨rfl, rfl⟩
  go_wp2_with fail
  refine HC.out.mono ?_
  rintro e w2 ⟨rfl, hq⟩
  have HQ := hide hq
  clear hq
  go_wp2_with fail
  go_ret
  exact ⟨rfl, HQ.out⟩
end Go.Proofs.YtabnimgpednhjaaDoor

namespace Go.Proofs.YtabnimgpednhjaaDoor
open Go.RowKit Go.Deep
set_option maxRecDepth 100000

/-- The reader holds a model. -/
def Holds (w : World) (base R : Nat) (m : Md) : Prop := ∃ v0 v1 v2 v3 v4, Rm w base R v0 v1 v2 v3 v4 m.ns m.is m.xs m.bs m.hs m.last
/-- What a line's reading ends with. -/
def LineOut (base R : Nat) (o : Option Md) (w : World) (e : Ending) (w' : World) : Prop := e = .returned (.bool o.isSome) ∧ Below base w w' ∧ ∀ m', o = some m' → Holds w' base R m'
def Md.few (m : Md) : Prop := m.ns.length ≤ 100000 ∧ m.is.length ≤ 100000 ∧ m.xs.length ≤ 100000 ∧ m.bs.length ≤ 100000 ∧ m.hs.length ≤ 100000

theorem line_any1 (base R : Nat) (m : Md) (hf : m.few) (p : Option Addr) (a : ByteArray) (r : List ByteArray) (hrl : r.length ≤ 100000) (w : World) (hbs : base ≤ w.heap.size) (hSW : SW w) (hS : StrsAt w p (a :: r)) (hM : Holds w base R m) (hs0 : sortN a = 1) (hlow : ¬ sortN a < m.last) :
    Calls Tryd.prog 15 #[.pointer (some ⟨R, 0, none⟩), .slice p (r.length + 1) (r.length + 1)] w (LineOut base R (m.line (a :: r)) w) := by
  obtain ⟨v0, v1, v2, v3, v4, hM⟩ := hM
  rw [hs0] at hlow
  by_cases hr : readB r 2 = true
  · obtain ⟨x, y, hta⟩ := readB_two hr
    have e : m.line (a :: r) = some { m with is := m.is ++ [(x, y)], last := 1 } := by simp [Md.line, hs0, hlow, hta]
    rw [e]
    refine (line_ok1 base R v0 v1 v2 v3 v4 m.ns m.is m.xs m.bs m.hs m.last p a r hrl hf.2.1 x y w hbs hSW hS hM hs0 (by omega) hta).mono ?_
    rintro e w' ⟨rfl, v', h1, h2⟩
    exact ⟨rfl, h2, fun m' h => by cases h; exact ⟨v0, v', v2, v3, v4, h1⟩⟩
  · have e : m.line (a :: r) = none := by
      simp only [Md.line, hs0, hlow, if_false]
      split
      · rename_i hta
        exact absurd (by unfold readB; rw [hta]; rfl) hr
      · rfl
    rw [e]
    refine (line_no1 base R v0 v1 v2 v3 v4 m.ns m.is m.xs m.bs m.hs m.last p a r hrl w hbs hSW hS hM hs0 (by omega) (by simpa using hr)).mono ?_
    rintro e w' ⟨rfl, h2⟩
    exact ⟨rfl, h2, fun m' h => by cases h⟩

theorem line_any2 (base R : Nat) (m : Md) (hf : m.few) (p : Option Addr) (a : ByteArray) (r : List ByteArray) (hrl : r.length ≤ 100000) (w : World) (hbs : base ≤ w.heap.size) (hSW : SW w) (hS : StrsAt w p (a :: r)) (hM : Holds w base R m) (hs0 : sortN a = 2) (hlow : ¬ sortN a < m.last) :
    Calls Tryd.prog 15 #[.pointer (some ⟨R, 0, none⟩), .slice p (r.length + 1) (r.length + 1)] w (LineOut base R (m.line (a :: r)) w) := by
  obtain ⟨v0, v1, v2, v3, v4, hM⟩ := hM
  rw [hs0] at hlow
  by_cases hr : readB r 2 = true
  · obtain ⟨x, y, hta⟩ := readB_two hr
    have e : m.line (a :: r) = some { m with xs := m.xs ++ [(x, y)], last := 2 } := by simp [Md.line, hs0, hlow, hta]
    rw [e]
    refine (line_ok2 base R v0 v1 v2 v3 v4 m.ns m.is m.xs m.bs m.hs m.last p a r hrl hf.2.2.1 x y w hbs hSW hS hM hs0 (by omega) hta).mono ?_
    rintro e w' ⟨rfl, v', h1, h2⟩
    exact ⟨rfl, h2, fun m' h => by cases h; exact ⟨v0, v1, v', v3, v4, h1⟩⟩
  · have e : m.line (a :: r) = none := by
      simp only [Md.line, hs0, hlow, if_false]
      split
      · rename_i hta
        exact absurd (by unfold readB; rw [hta]; rfl) hr
      · rfl
    rw [e]
    refine (line_no2 base R v0 v1 v2 v3 v4 m.ns m.is m.xs m.bs m.hs m.last p a r hrl w hbs hSW hS hM hs0 (by omega) (by simpa using hr)).mono ?_
    rintro e w' ⟨rfl, h2⟩
    exact ⟨rfl, h2, fun m' h => by cases h⟩

theorem line_any3 (base R : Nat) (m : Md) (hf : m.few) (p : Option Addr) (a : ByteArray) (r : List ByteArray) (hrl : r.length ≤ 100000) (w : World) (hbs : base ≤ w.heap.size) (hSW : SW w) (hS : StrsAt w p (a :: r)) (hM : Holds w base R m) (hs0 : sortN a = 3) (hlow : ¬ sortN a < m.last) :
    Calls Tryd.prog 15 #[.pointer (some ⟨R, 0, none⟩), .slice p (r.length + 1) (r.length + 1)] w (LineOut base R (m.line (a :: r)) w) := by
  obtain ⟨v0, v1, v2, v3, v4, hM⟩ := hM
  rw [hs0] at hlow
  by_cases hr : readB r 1 = true
  · obtain ⟨x, hta⟩ := readB_one hr
    have e : m.line (a :: r) = some { m with bs := m.bs ++ [x], last := 3 } := by simp [Md.line, hs0, hlow, hta]
    rw [e]
    refine (line_ok3 base R v0 v1 v2 v3 v4 m.ns m.is m.xs m.bs m.hs m.last p a r hrl hf.2.2.2.1 x w hbs hSW hS hM hs0 (by omega) hta).mono ?_
    rintro e w' ⟨rfl, v', h1, h2⟩
    exact ⟨rfl, h2, fun m' h => by cases h; exact ⟨v0, v1, v2, v', v4, h1⟩⟩
  · have e : m.line (a :: r) = none := by
      simp only [Md.line, hs0, hlow, if_false]
      split
      · rename_i hta
        exact absurd (by unfold readB; rw [hta]; rfl) hr
      · rfl
    rw [e]
    refine (line_no3 base R v0 v1 v2 v3 v4 m.ns m.is m.xs m.bs m.hs m.last p a r hrl w hbs hSW hS hM hs0 (by omega) (by simpa using hr)).mono ?_
    rintro e w' ⟨rfl, h2⟩
    exact ⟨rfl, h2, fun m' h => by cases h⟩

theorem line_any4 (base R : Nat) (m : Md) (hf : m.few) (p : Option Addr) (a : ByteArray) (r : List ByteArray) (hrl : r.length ≤ 100000) (w : World) (hbs : base ≤ w.heap.size) (hSW : SW w) (hS : StrsAt w p (a :: r)) (hM : Holds w base R m) (hs0 : sortN a = 4) (hlow : ¬ sortN a < m.last) :
    Calls Tryd.prog 15 #[.pointer (some ⟨R, 0, none⟩), .slice p (r.length + 1) (r.length + 1)] w (LineOut base R (m.line (a :: r)) w) := by
  obtain ⟨v0, v1, v2, v3, v4, hM⟩ := hM
  rw [hs0] at hlow
  by_cases hr : readB r 1 = true
  · obtain ⟨x, hta⟩ := readB_one hr
    have e : m.line (a :: r) = some { m with hs := m.hs ++ [x], last := 4 } := by simp [Md.line, hs0, hlow, hta]
    rw [e]
    refine (line_ok4 base R v0 v1 v2 v3 v4 m.ns m.is m.xs m.bs m.hs m.last p a r hrl hf.2.2.2.2 x w hbs hSW hS hM hs0 (by omega) hta).mono ?_
    rintro e w' ⟨rfl, v', h1, h2⟩
    exact ⟨rfl, h2, fun m' h => by cases h; exact ⟨v0, v1, v2, v3, v', h1⟩⟩
  · have e : m.line (a :: r) = none := by
      simp only [Md.line, hs0, hlow, if_false]
      split
      · rename_i hta
        exact absurd (by unfold readB; rw [hta]; rfl) hr
      · rfl
    rw [e]
    refine (line_no4 base R v0 v1 v2 v3 v4 m.ns m.is m.xs m.bs m.hs m.last p a r hrl w hbs hSW hS hM hs0 (by omega) (by simpa using hr)).mono ?_
    rintro e w' ⟨rfl, h2⟩
    exact ⟨rfl, h2, fun m' h => by cases h⟩
end Go.Proofs.YtabnimgpednhjaaDoor
