/- Gates: an And is added. -/
import Derived.Test.YtdlfjijfdibocaaGh
import Derived.Deep.RegionLaw
import Derived.Deep.AppendLies
namespace Go.Proofs.Ytdlfjijfdibocaa
open Go.RowKit Go.Maps Go.WideMaps
set_option maxRecDepth 100000

def addLit (ins : Int) (ps : List (Int × Int)) (x : Int × Int) : Int := if 0 ≤ andAt ps ps.length x then 2 * (1 + ins + andAt ps ps.length x) else if 1000000 ≤ ps.length then 0 else 2 * (1 + ins + ps.length)
def addOk (ps : List (Int × Int)) (x : Int × Int) : Bool := decide (0 ≤ andAt ps ps.length x) || decide (ps.length < 1000000)
def addPs (ps : List (Int × Int)) (x : Int × Int) : List (Int × Int) := if 0 ≤ andAt ps ps.length x then ps else if 1000000 ≤ ps.length then ps else ps ++ [x]

theorem lit_inj {c d : Int} (h : (DataW.lit (.int .i64 c) : DataW Unit) = .lit (.int .i64 d)) : c = d := by
  injection h with h
  injection h

theorem look_ok_int {w : World} {B n : Nat} {D : DataW Unit} (h : w.ownsMap Try.prog 36 (plainElem (H := Unit) Try.prog 3) B n D) {a b : Int} (ha : Wf a) (hb : Wf b) :
    ∃ c, (∀ m, (Instr.lookup 105 (.map (some B)) (arr2 a b) true).run Try.prog (w.drewN m) = .ok (.tuple #[.int .i64 c, .bool (Maps.has D (keyL a b))]) (w.drewN m)) ∧ D.atKey (keyL a b) (.lit (.int .i64 0)) = .lit (.int .i64 c) := by
  have h0 : ∀ m, ∃ c, (Instr.lookup 105 (.map (some B)) (arr2 a b) true).run Try.prog (w.drewN m) = .ok (.tuple #[.int .i64 c, .bool (Maps.has D (keyL a b))]) (w.drewN m) ∧ D.atKey (keyL a b) (.lit (.int .i64 0)) = .lit (.int .i64 c) := by
    intro m
    obtain ⟨v, ps, h1, h2⟩ := World.ownsMap.look_ok (w := w.drewN m) h law55 Try.underlying105 (zero3 _) (plainElem_int Try.underlying3 (a := 0) (by decide)) (key55 ha hb)
    obtain ⟨c, rfl, hc, _⟩ := plainElem_int_inv Try.underlying3 h2
    simp only [Prod.mk.injEq] at hc
    exact ⟨c, h1, hc.1⟩
  obtain ⟨c, _, h2⟩ := h0 0
  refine ⟨c, fun m => ?_, h2⟩
  obtain ⟨c', h3, h4⟩ := h0 m
  rw [h2] at h4
  cases h4
  exact h3

theorem cell_set_far {w : World} {p q : Addr} {u x : Value} (h : w.cell? q = some x) (hne : q.block ≠ p.block) : (w.setCell p u).cell? q = some x := by
  rw [World.cell?_of_block (w := w) (Below.heap_setCell w p u q.block hne)]; exact h
theorem owns_set {w : World} {base e size n : Nat} {v u : Value} {xs : List Value} {p : Addr} (h : w.ownsRow base e size v n xs) (hne : v.ownBlock ≠ some p.block) : (w.setCell p u).ownsRow base e size v n xs := by
  obtain ⟨h1, h2⟩ := h
  refine ⟨h1, ?_⟩
  rcases h2 with h2 | ⟨g, cap, cur, rfl, hg, hh, hr⟩
  · exact .inl h2
  · exact .inr ⟨g, cap, cur, rfl, hg, by rw [Below.heap_setCell w p u g (fun e => hne (by simp [Value.ownBlock, e]))]; exact hh, hr⟩

theorem add_mem {w1 w2 : World} {base M B n g cap cv : Nat} {pv : Option Addr} {D : DataW Unit} {ins a b : Int} {ps : List (Int × Int)} {o : Obj} (hn : ps.length = n) (hbs : base ≤ w1.heap.size)
    (hmk : Mk w1 base M B (.slice pv n cv) ins ps) (hown : w1.ownsMap Try.prog 36 (plainElem Try.prog 3) B n D) (hg : (w1.alloc o).drew.grownBy w2 (Value.ownBlock (.slice pv n cv)))
    (hrow : w2.ownsRow base 36 2 (.slice (some ⟨g, 0, none⟩) (n + 1) cap) (n + 1) (flat ps ++ [.int .i64 a, .int .i64 b])) (hat : Value.ownBlock (.slice pv n cv) = some g ∨ g = w1.heap.size + 1) :
    Mk (w2.setCell ⟨M, 1, none⟩ (.slice (some ⟨g, 0, none⟩) (n + 1) cap)) base M B (.slice (some ⟨g, 0, none⟩) (n + 1) cap) ins (ps ++ [(a, b)]) ∧
    (w2.setCell ⟨M, 1, none⟩ (.slice (some ⟨g, 0, none⟩) (n + 1) cap)).ownsMap Try.prog 36 (plainElem Try.prog 3) B n D ∧
    (∀ w0, Below base w0 w1 → Below base w0 (w2.setCell ⟨M, 1, none⟩ (.slice (some ⟨g, 0, none⟩) (n + 1) cap))) ∧
    (∀ (q : Addr) x, w1.cell? q = some x → q.block ≠ M → some q.block ≠ Value.ownBlock (.slice pv n cv) → (w2.setCell ⟨M, 1, none⟩ (.slice (some ⟨g, 0, none⟩) (n + 1) cap)).cell? q = some x) := by
  have hM := World.block_lt_of_cell? _ _ hmk.c1
  simp only at hM
  have hBl := hown.lt
  have hgM : g ≠ M := by
    rcases hat with h | h
    · intro e; exact hmk.nv (by rw [h, e])
    · omega
  have hgB : g ≠ B := by
    rcases hat with h | h
    · intro e; exact hmk.nb (by rw [h, e])
    · omega
  have k0 := hg.cell (past1 hmk.c0 o) (fun e => hmk.nv e.symm)
  have k1 := hg.cell (past1 hmk.c1 o) (fun e => hmk.nv e.symm)
  have k2 := hg.cell (past1 hmk.c2 o) (fun e => hmk.nv e.symm)
  have kf : w2.frozen? ⟨M, 1, none⟩ = false := by
    rw [grown_frozen hg (past1 hmk.c1 o) (fun e => hmk.nv e.symm)]
    have hb : Below w1.heap.size w1 (w1.alloc o).drew := (bal (Below.refl _ _) o).drew
    rw [hb.frozen hM]
    exact hmk.f1
  subst hn
  refine ⟨⟨?_, ?_, ?_, ?_, ?_, hmk.hM, hmk.hB, hmk.ne, ?_, ?_⟩, ?_, ?_, ?_⟩
  · rw [World.cell?_setCell_other w2 _ _ _ (by simp)]; exact k0
  · exact World.cell?_setCell_same w2 _ _ k1
  · rw [World.cell?_setCell_other w2 _ _ _ (by simp)]; exact k2
  · rw [World.frozen?_setCell]; exact kf
  · rw [flat_snoc, List.length_append]
    exact owns_set hrow (by simpa [Value.ownBlock] using hgM)
  · simpa [Value.ownBlock] using hgM
  · simpa [Value.ownBlock] using hgB
  · exact ((hown.alloc o).drew.kept hg (fun e => hmk.nb e.symm)).setCell hmk.ne.symm _
  · intro w0 hb
    refine Below.setCell ((hb.alloc hbs o).drew.grown hg (by simp; omega) (fun k hk => (hmk.row.lt k hk).1)) hmk.hM _
  · intro q x hq h1 h2
    exact cell_set_far (hg.cell (past1 hq o) h2) h1

end Go.Proofs.Ytdlfjijfdibocaa

namespace Go.Proofs.Ytdlfjijfdibocaa
open Go.RowKit Go.Maps Go.WideMaps
set_option maxRecDepth 100000

/-- The And of two literals, the lesser one first: its literal, whether it could be made, and the graph's Ands then. -/
def makLit (ins : Int) (ps : List (Int × Int)) (a b : Int) : Int := if a = 0 ∨ a = turn b then 0 else if a = 1 ∨ a = b then b else addLit ins ps (a, b)
def makOk (ps : List (Int × Int)) (a b : Int) : Bool := if a = 0 ∨ a = turn b then true else if a = 1 ∨ a = b then true else addOk ps (a, b)
def makPs (ps : List (Int × Int)) (a b : Int) : List (Int × Int) := if a = 0 ∨ a = turn b then ps else if a = 1 ∨ a = b then ps else addPs ps (a, b)

theorem mak_no {ins : Int} {ps : List (Int × Int)} {a b : Int} (h : a = 0 ∨ a = turn b) : makLit ins ps a b = 0 ∧ makOk ps a b = true ∧ makPs ps a b = ps := by
  unfold makLit makOk makPs; rw [if_pos h, if_pos h, if_pos h]; exact ⟨rfl, rfl, rfl⟩
theorem mak_one {ins : Int} {ps : List (Int × Int)} {a b : Int} (h : ¬ (a = 0 ∨ a = turn b)) (h2 : a = 1 ∨ a = b) : makLit ins ps a b = b ∧ makOk ps a b = true ∧ makPs ps a b = ps := by
  unfold makLit makOk makPs; rw [if_neg h, if_neg h, if_neg h, if_pos h2, if_pos h2, if_pos h2]; exact ⟨rfl, rfl, rfl⟩
theorem mak_add {ins : Int} {ps : List (Int × Int)} {a b : Int} (h : ¬ (a = 0 ∨ a = turn b)) (h2 : ¬ (a = 1 ∨ a = b)) : makLit ins ps a b = addLit ins ps (a, b) ∧ makOk ps a b = addOk ps (a, b) ∧ makPs ps a b = addPs ps (a, b) := by
  unfold makLit makOk makPs; rw [if_neg h, if_neg h, if_neg h, if_neg h2, if_neg h2, if_neg h2]; exact ⟨rfl, rfl, rfl⟩

theorem turn_ne (x : Int) : x ≠ turn x := by unfold turn; split <;> omega

def andLit (ins : Int) (ps : List (Int × Int)) (a b : Int) : Int := makLit ins ps (min a b) (max a b)
def andOk (ps : List (Int × Int)) (a b : Int) : Bool := makOk ps (min a b) (max a b)
def andPs (ps : List (Int × Int)) (a b : Int) : List (Int × Int) := makPs ps (min a b) (max a b)

end Go.Proofs.Ytdlfjijfdibocaa

namespace Go.Proofs.Ytdlfjijfdibocaa
open Go.RowKit Go.Maps Go.WideMaps
set_option maxRecDepth 100000

/-- What And says. -/
def andE (ins : Int) (ps : List (Int × Int)) (a b : Int) : Int :=
  if chkE ins ps ≠ 0 then chkE ins ps else if [a, b].any (noLit (2 * (1 + ins + ps.length))) = true then 5 else if andOk ps a b = false then 2 else 0
def outIns (ins e : Int) : Int := if e = 0 then ins else 0
def outLit (ins : Int) (ps : List (Int × Int)) (a b e : Int) : Int := if e = 0 then andLit ins ps a b else 0
def outPs (ps : List (Int × Int)) (a b e : Int) : List (Int × Int) := if e = 0 then andPs ps a b else []

theorem out_no {ins : Int} {ps : List (Int × Int)} {a b e : Int} (h : e ≠ 0) : outIns ins e = 0 ∧ outLit ins ps a b e = 0 ∧ outPs ps a b e = [] := by
  unfold outIns outLit outPs; rw [if_neg h, if_neg h, if_neg h]; exact ⟨rfl, rfl, rfl⟩
theorem out_ok {ins : Int} {ps : List (Int × Int)} {a b : Int} : outIns ins 0 = ins ∧ outLit ins ps a b 0 = andLit ins ps a b ∧ outPs ps a b 0 = andPs ps a b := by
  unfold outIns outLit outPs; rw [if_pos rfl, if_pos rfl, if_pos rfl]; exact ⟨rfl, rfl, rfl⟩

/-- What And leaves. -/
def AndOut (w' : World) (e : Ending) (ins : Int) (ps : List (Int × Int)) (a b : Int) : Prop := ∃ pv cv,
  e = .returned (.tuple #[gval (outIns ins (andE ins ps a b)) pv (outPs ps a b (andE ins ps a b)).length cv, .int .i64 (outLit ins ps a b (andE ins ps a b)), .int .i64 (andE ins ps a b)]) ∧
      PairsAt w' pv (outPs ps a b (andE ins ps a b))
theorem andOut_no {w' : World} {ins : Int} {ps : List (Int × Int)} {a b e : Int} (he : andE ins ps a b = e) (hne : e ≠ 0) : AndOut w' (.returned (.tuple #[gval 0 none 0 0, .int .i64 0, .int .i64 e])) ins ps a b := by
  subst he
  obtain ⟨h1, h2, h3⟩ := out_no (ins := ins) (ps := ps) (a := a) (b := b) hne
  refine ⟨none, 0, ?_, ?_⟩
  · rw [h1, h2, h3]; rfl
  · rw [h3]; exact fun h => by simp at h
theorem andOut_ok {w' : World} {ins : Int} {ps : List (Int × Int)} {a b : Int} {pv : Option Addr} {cv : Nat} (he : andE ins ps a b = 0) (hp : PairsAt w' pv (andPs ps a b)) : AndOut w' (.returned (.tuple #[gval ins pv (andPs ps a b).length cv, .int .i64 (andLit ins ps a b), .int .i64 0])) ins ps a b := by
  obtain ⟨h1, h2, h3⟩ := out_ok (ins := ins) (ps := ps) (a := a) (b := b)
  unfold AndOut
  rw [he, h1, h2, h3]
  exact ⟨pv, cv, rfl, hp⟩

theorem two_any (f : Int → Bool) (a b : Int) : [a, b].any f = (f a || f b) := by simp

theorem pairs_two {w : World} {a b : Int} : IntsAt (w.alloc (.cells #[.int .i64 a, .int .i64 b] 3)) (some ⟨w.heap.size, 0, none⟩) [a, b] := fun _ => ⟨w.heap.size, 0, rfl, fun i hi => by
  match i, hi with
  | 0, _ => simp [go_sem]
  | 1, _ => simp [go_sem]⟩

end Go.Proofs.Ytdlfjijfdibocaa
