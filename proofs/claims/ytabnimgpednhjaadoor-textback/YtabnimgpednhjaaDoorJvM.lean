/- The reader's memory. -/
import Derived.Test.YtabnimgpednhjaaDoorJs
namespace Go.Proofs.YtabnimgpednhjaaDoor
open Go.RowKit Go.Deep
set_option maxRecDepth 100000

theorem own_kept {w w' : World} {R base : Nat} {u v : Value} {e : TypeId} {sz n : Nat} {xs : List Value} (h : w.ownsRow base e sz v n xs) (hk : Kept w w' R u) (hR : v.ownBlock ≠ some R) (hu : ∀ k, v.ownBlock = some k → u.ownBlock ≠ some k) : w'.ownsRow base e sz v n xs := by
  refine ⟨h.1, ?_⟩
  rcases h.2 with hn | ⟨g, cap, cur, rfl, hbg, hg, rest⟩
  · exact .inl hn
  · exact .inr ⟨g, cap, cur, rfl, hbg, (hk.block g (Array.getElem?_eq_some_iff.1 hg).1 (fun e => hR (by rw [← e]; rfl)) (hu g rfl)).trans hg, rest⟩
/-- Two values own no block together. -/
def Apart (u v : Value) : Prop := ∀ k, u.ownBlock = some k → v.ownBlock ≠ some k
theorem Apart.symm {u v : Value} (h : Apart u v) : Apart v u := fun k hv hu => h k hu hv
theorem apart_kinds {w : World} {base e1 e2 s1 s2 n1 n2 : Nat} {u v : Value} {xs ys : List Value} (h1 : w.ownsRow base e1 s1 u n1 xs) (h2 : w.ownsRow base e2 s2 v n2 ys) (hne : e1 ≠ e2) : Apart u v := fun k hu => by
  rcases h1.2 with ⟨rfl, _⟩ | ⟨g, cap, cur, rfl, _, hg, _⟩
  · cases hu
  · cases hu
    exact ownBlock_neG h2 hg hne
/-- A new list lies apart from what lay apart from the elder. -/
theorem apart_new {w : World} {base e sz n : Nat} {v v' u : Value} {xs : List Value} (h : Apart v u) (hu : w.ownsRow base e sz u n xs) (hat : v'.ownBlock = v.ownBlock ∨ ∃ g, v'.ownBlock = some g ∧ w.heap.size ≤ g) : Apart v' u := fun k hk huk => by
  rcases hat with e | ⟨g, e, hg⟩
  · exact h k (by rw [← e]; exact hk) huk
  · rw [e] at hk
    cases hk
    have := (hu.lt _ huk).2
    omega
/-- What the reader holds: the lists, and the last line's sort. -/
structure Rm (w : World) (base R : Nat) (v0 v1 v2 v3 v4 : Value) (ns : List Ev.Nd) (is xs : List (Int × Int)) (bs hs : List Int) (last : Nat) : Prop where
  c : w.heap[R]? = some (.cells #[v0, v1, v2, v3, v4, .int .i64 last] 53 (0, 0))
  r0 : w.ownsRow base 46 6 v0 ns.length (flatN ns)
  r1 : w.ownsRow base 61 2 v1 is.length (flatP is)
  r2 : w.ownsRow base 61 2 v2 xs.length (flatP xs)
  r3 : w.ownsRow base 3 1 v3 bs.length (bs.map (Value.int .i64))
  r4 : w.ownsRow base 3 1 v4 hs.length (hs.map (Value.int .i64))
  a12 : Apart v1 v2
  a34 : Apart v3 v4
  hR : base ≤ R
theorem Rm.later {w w' : World} {base R : Nat} {v0 v1 v2 v3 v4 : Value} {ns : List Ev.Nd} {is xs : List (Int × Int)} {bs hs : List Int} {last : Nat} (h : Rm w base R v0 v1 v2 v3 v4 ns is xs bs hs last) (hb : Below w.heap.size w w') : Rm w' base R v0 v1 v2 v3 v4 ns is xs bs hs last :=
  ⟨(hb.block _ (Array.getElem?_eq_some_iff.1 h.c).1).trans h.c, own_belowG h.r0 hb, own_belowG h.r1 hb, own_belowG h.r2 hb, own_belowG h.r3 hb, own_belowG h.r4 hb, h.a12, h.a34, h.hR⟩
theorem Rm.sort {w : World} {base R : Nat} {v0 v1 v2 v3 v4 : Value} {ns : List Ev.Nd} {is xs : List (Int × Int)} {bs hs : List Int} {last : Nat} (h : Rm w base R v0 v1 v2 v3 v4 ns is xs bs hs last) (s : Nat) : Rm (w.setCell ⟨R, 5, none⟩ (.int .i64 s)) base R v0 v1 v2 v3 v4 ns is xs bs hs s :=
  ⟨by rw [heap_setCell_same _ _ _ _ _ _ h.c]; rfl, ownsRow_setCell_other h.r0 (ownBlock_neG h.r0 h.c (by decide)) _, ownsRow_setCell_other h.r1 (ownBlock_neG h.r1 h.c (by decide)) _, ownsRow_setCell_other h.r2 (ownBlock_neG h.r2 h.c (by decide)) _, ownsRow_setCell_other h.r3 (ownBlock_neG h.r3 h.c (by decide)) _, ownsRow_setCell_other h.r4 (ownBlock_neG h.r4 h.c (by decide)) _, h.a12, h.a34, h.hR⟩
section puts
variable {w w' : World} {base R : Nat} {v0 v1 v2 v3 v4 v' : Value} {ns : List Ev.Nd} {is xs : List (Int × Int)} {bs hs : List Int} {last : Nat}
theorem Rm.put0 {ns' : List Ev.Nd} (h : Rm w base R v0 v1 v2 v3 v4 ns is xs bs hs last) (hc : w'.heap[R]? = some (.cells ((#[v0, v1, v2, v3, v4, .int .i64 last] : Array Value).setIfInBounds 0 v') 53 (0, 0))) (hr : w'.ownsRow base 46 6 v' ns'.length (flatN ns')) (hk : Kept w w' R v0) : Rm w' base R v' v1 v2 v3 v4 ns' is xs bs hs last :=
  ⟨hc, hr, own_kept h.r1 hk (ownBlock_neG h.r1 h.c (by decide)) (apart_kinds h.r1 h.r0 (by decide)), own_kept h.r2 hk (ownBlock_neG h.r2 h.c (by decide)) (apart_kinds h.r2 h.r0 (by decide)), own_kept h.r3 hk (ownBlock_neG h.r3 h.c (by decide)) (apart_kinds h.r3 h.r0 (by decide)), own_kept h.r4 hk (ownBlock_neG h.r4 h.c (by decide)) (apart_kinds h.r4 h.r0 (by decide)), h.a12, h.a34, h.hR⟩
theorem Rm.put1 {is' : List (Int × Int)} (h : Rm w base R v0 v1 v2 v3 v4 ns is xs bs hs last) (hc : w'.heap[R]? = some (.cells ((#[v0, v1, v2, v3, v4, .int .i64 last] : Array Value).setIfInBounds 1 v') 53 (0, 0))) (hr : w'.ownsRow base 61 2 v' is'.length (flatP is')) (hk : Kept w w' R v1) (hat : v'.ownBlock = v1.ownBlock ∨ ∃ g, v'.ownBlock = some g ∧ w.heap.size ≤ g) : Rm w' base R v0 v' v2 v3 v4 ns is' xs bs hs last :=
  ⟨hc, own_kept h.r0 hk (ownBlock_neG h.r0 h.c (by decide)) (apart_kinds h.r0 h.r1 (by decide)), hr, own_kept h.r2 hk (ownBlock_neG h.r2 h.c (by decide)) h.a12.symm, own_kept h.r3 hk (ownBlock_neG h.r3 h.c (by decide)) (apart_kinds h.r3 h.r1 (by decide)), own_kept h.r4 hk (ownBlock_neG h.r4 h.c (by decide)) (apart_kinds h.r4 h.r1 (by decide)), apart_new h.a12 h.r2 hat, h.a34, h.hR⟩
theorem Rm.put2 {xs' : List (Int × Int)} (h : Rm w base R v0 v1 v2 v3 v4 ns is xs bs hs last) (hc : w'.heap[R]? = some (.cells ((#[v0, v1, v2, v3, v4, .int .i64 last] : Array Value).setIfInBounds 2 v') 53 (0, 0))) (hr : w'.ownsRow base 61 2 v' xs'.length (flatP xs')) (hk : Kept w w' R v2) (hat : v'.ownBlock = v2.ownBlock ∨ ∃ g, v'.ownBlock = some g ∧ w.heap.size ≤ g) : Rm w' base R v0 v1 v' v3 v4 ns is xs' bs hs last :=
  ⟨hc, own_kept h.r0 hk (ownBlock_neG h.r0 h.c (by decide)) (apart_kinds h.r0 h.r2 (by decide)), own_kept h.r1 hk (ownBlock_neG h.r1 h.c (by decide)) h.a12, hr, own_kept h.r3 hk (ownBlock_neG h.r3 h.c (by decide)) (apart_kinds h.r3 h.r2 (by decide)), own_kept h.r4 hk (ownBlock_neG h.r4 h.c (by decide)) (apart_kinds h.r4 h.r2 (by decide)), (apart_new h.a12.symm h.r1 hat).symm, h.a34, h.hR⟩
theorem Rm.put3 {bs' : List Int} (h : Rm w base R v0 v1 v2 v3 v4 ns is xs bs hs last) (hc : w'.heap[R]? = some (.cells ((#[v0, v1, v2, v3, v4, .int .i64 last] : Array Value).setIfInBounds 3 v') 53 (0, 0))) (hr : w'.ownsRow base 3 1 v' bs'.length (bs'.map (Value.int .i64))) (hk : Kept w w' R v3) (hat : v'.ownBlock = v3.ownBlock ∨ ∃ g, v'.ownBlock = some g ∧ w.heap.size ≤ g) : Rm w' base R v0 v1 v2 v' v4 ns is xs bs' hs last :=
  ⟨hc, own_kept h.r0 hk (ownBlock_neG h.r0 h.c (by decide)) (apart_kinds h.r0 h.r3 (by decide)), own_kept h.r1 hk (ownBlock_neG h.r1 h.c (by decide)) (apart_kinds h.r1 h.r3 (by decide)), own_kept h.r2 hk (ownBlock_neG h.r2 h.c (by decide)) (apart_kinds h.r2 h.r3 (by decide)), hr, own_kept h.r4 hk (ownBlock_neG h.r4 h.c (by decide)) h.a34.symm, h.a12, apart_new h.a34 h.r4 hat, h.hR⟩
theorem Rm.put4 {hs' : List Int} (h : Rm w base R v0 v1 v2 v3 v4 ns is xs bs hs last) (hc : w'.heap[R]? = some (.cells ((#[v0, v1, v2, v3, v4, .int .i64 last] : Array Value).setIfInBounds 4 v') 53 (0, 0))) (hr : w'.ownsRow base 3 1 v' hs'.length (hs'.map (Value.int .i64))) (hk : Kept w w' R v4) (hat : v'.ownBlock = v4.ownBlock ∨ ∃ g, v'.ownBlock = some g ∧ w.heap.size ≤ g) : Rm w' base R v0 v1 v2 v3 v' ns is xs bs hs' last :=
  ⟨hc, own_kept h.r0 hk (ownBlock_neG h.r0 h.c (by decide)) (apart_kinds h.r0 h.r4 (by decide)), own_kept h.r1 hk (ownBlock_neG h.r1 h.c (by decide)) (apart_kinds h.r1 h.r4 (by decide)), own_kept h.r2 hk (ownBlock_neG h.r2 h.c (by decide)) (apart_kinds h.r2 h.r4 (by decide)), own_kept h.r3 hk (ownBlock_neG h.r3 h.c (by decide)) h.a34, hr, h.a12, (apart_new h.a34.symm h.r3 hat).symm, h.hR⟩
end puts
end Go.Proofs.YtabnimgpednhjaaDoor

namespace Go.Proofs.YtabnimgpednhjaaDoor
open Go.RowKit Go.Deep
set_option maxRecDepth 100000

/-- The node of a kind and its numbers. -/
def mkNd (k : Nat) (ns : List Int) : Ev.Nd :=
  { kind := k, width := ns.getD 0 0, a := if 1 ≤ (Ev.takes k).toNat then ns.getD 1 0 else 0, b := if 2 ≤ (Ev.takes k).toNat then ns.getD 2 0 else 0, c := if 3 ≤ (Ev.takes k).toNat then ns.getD 3 0 else 0, n := if hasN k then ns.getD ((Ev.takes k).toNat + 1) 0 else 0 }
theorem mk_all (k : Int) (tk : Nat) (h : Bool) (ns : List Int) (ht : tk ≤ 3) (hl : ns.length = 1 + tk + if h then 1 else 0) :
    setN #[.int .i64 k, .int .i64 0, .int .i64 0, .int .i64 0, .int .i64 0, .int .i64 0] ((List.range (1 + tk + if h then 1 else 0)).map fun j => if j ≤ tk then j + 1 else 5) ns (1 + tk + if h then 1 else 0) =
      #[.int .i64 k, .int .i64 (ns.getD 0 0), .int .i64 (if 1 ≤ tk then ns.getD 1 0 else 0), .int .i64 (if 2 ≤ tk then ns.getD 2 0 else 0), .int .i64 (if 3 ≤ tk then ns.getD 3 0 else 0), .int .i64 (if h then ns.getD (tk + 1) 0 else 0)] := by
  have : tk = 0 ∨ tk = 1 ∨ tk = 2 ∨ tk = 3 := by omega
  rcases this with rfl | rfl | rfl | rfl <;> cases h <;>
    rcases ns with _ | ⟨a, _ | ⟨b, _ | ⟨c, _ | ⟨d, _ | ⟨e, _ | ⟨f, r⟩⟩⟩⟩⟩⟩ <;>
    first
      | (exfalso; simp at hl; done)
      | (exfalso; simp at hl; omega)
      | rfl
theorem nodeA_is (k : Nat) (ns : List Int) (hl : ns.length = manyN k) : nodeA k ns = ndA (mkNd k ns) := by
  have ht := takes_bd (k : Int)
  unfold nodeA node0 offL ndA mkNd
  rw [List.length_map, List.length_range]
  unfold manyN at hl ⊢
  exact mk_all k _ (hasN k) ns (by omega) hl

/-- A model while it is read, and the last line's sort. -/
structure Md where
  ns : List Ev.Nd
  is : List (Int × Int)
  xs : List (Int × Int)
  bs : List Int
  hs : List Int
  last : Nat
def Md.node (m : Md) (ws : List ByteArray) : Option Md := match ws with
  | a :: b :: rest => if tellsN a = some (m.ns.length : Int) ∧ kindN b ≠ 0 ∧ readB rest (manyN (kindN b)) = true then some { m with ns := m.ns ++ [mkNd (kindN b) ((tellAll rest).getD [])] } else none
  | _ => none
/-- What one more line makes of it; nothing, where the line may not stand there. -/
def Md.line (m : Md) (ws : List ByteArray) : Option Md := match ws with
  | [] => none
  | a :: r => if sortN a < m.last then none else
    match sortN a with
    | 1 => match tellAll r with | some [x, y] => some { m with is := m.is ++ [(x, y)], last := 1 } | _ => none
    | 2 => match tellAll r with | some [x, y] => some { m with xs := m.xs ++ [(x, y)], last := 2 } | _ => none
    | 3 => match tellAll r with | some [x] => some { m with bs := m.bs ++ [x], last := 3 } | _ => none
    | 4 => match tellAll r with | some [x] => some { m with hs := m.hs ++ [x], last := 4 } | _ => none
    | s => ({ m with last := s } : Md).node ws
theorem readB_two {ws : List ByteArray} (h : readB ws 2 = true) : ∃ x y, tellAll ws = some [x, y] := by
  unfold readB at h
  cases e : tellAll ws with
  | none => rw [e] at h; cases h
  | some ns =>
    rw [e] at h
    rcases ns with _ | ⟨a, _ | ⟨b, _ | ⟨c, r⟩⟩⟩ <;> simp at h
    exact ⟨a, b, rfl⟩
theorem readB_one {ws : List ByteArray} (h : readB ws 1 = true) : ∃ x, tellAll ws = some [x] := by
  unfold readB at h
  cases e : tellAll ws with
  | none => rw [e] at h; cases h
  | some ns =>
    rw [e] at h
    rcases ns with _ | ⟨a, _ | ⟨b, r⟩⟩ <;> simp at h
    exact ⟨a, rfl⟩
theorem sortN_bd (s : ByteArray) : sortN s ≤ 4 := by
  unfold sortN
  simp only [findW]
  split
  · omega
  · split
    · omega
    · split
      · omega
      · split <;> omega
end Go.Proofs.YtabnimgpednhjaaDoor

namespace Go.Proofs.YtabnimgpednhjaaDoor
open Go.RowKit Go.Deep
set_option maxRecDepth 100000

theorem strs_tail1 {w : World} {b off : Nat} {x : ByteArray} {rest : List ByteArray} (h : StrsAt w (some ⟨b, off, none⟩) (x :: rest)) : StrsAt w (some ⟨b, off + 1, none⟩) rest := fun h0 => by
  obtain ⟨b', off', c, fz, e, h1, h2⟩ := h (by simp)
  cases e
  refine ⟨b, off + 1, c, fz, rfl, h1, fun i hi => ?_⟩
  have := h2 (i + 1) (by simp; omega)
  simp only [List.getElem_cons_succ] at this
  rw [show off + 1 + i = off + (i + 1) by omega]
  exact this

set_option maxHeartbeats 4000000 in
theorem line_low (R : Nat) (p : Option Addr) (a : ByteArray) (r : List ByteArray) (last : Nat) (w : World) (hSW : SW w) (hS : StrsAt w p (a :: r)) (hlast : w.cell? ⟨R, 5, none⟩ = some (.int .i64 last)) (hlow : sortN a < last) :
    Calls Tryd.prog 15 #[.pointer (some ⟨R, 0, none⟩), .slice p (r.length + 1) (r.length + 1)] w fun e w' => e = .returned (.bool false) ∧ Below w.heap.size w w' := by
  obtain ⟨g, off, rfl, hc⟩ := hS.cell (by simp)
  have c0 := hc 0 (by simp)
  simp only [List.getElem_cons_zero, Nat.add_zero] at c0
  have hl0 : (0 : Int) < (r.length : Int) + 1 := by omega
  have HK := hide (sortOf_any a w.drew hSW)
  have hlo : ((sortN a : Nat) : Int) < (last : Int) := by omega
  have d0 : w.drew.cell? ⟨g, off, none⟩ = some (.string a) := c0
  have d1 : w.drew.cell? ⟨R, 5, none⟩ = some (.int .i64 last) := hlast
  have HB := hide ((Below.refl w.heap.size w).drew)
  generalize sortN a = sn at *
  clear hS hc hSW
  go_enter Tryd.func15, Tryd.ntmps15
  go_wp2_with fail
  go_region_held3 (fun w' => w'.cell? ⟨g, off, none⟩ = some (.string a) ∧ w'.cell? ⟨R, 5, none⟩ = some (.int .i64 last))
    (first | exact ⟨d0, d1⟩ | go_keep)
    ((go_at_call 29; refine HK.out.mono ?_; rintro e w1 ⟨rfl, rfl⟩))
  go_wp2_with fail
  go_ret
  exact ⟨rfl, HB.out⟩
end Go.Proofs.YtabnimgpednhjaaDoor
