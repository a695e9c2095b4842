/- Clauses of gates: lists of lists in memory; the maker adds a clause. -/
import Derived.Test.YtdlfjijfdibocaaCa
import Derived.Deep.RegionLaw
import Derived.Deep.AppendLies
namespace Go.Proofs.Ytdlfjijfdibocaa
open Go.RowKit Go.Maps Go.WideMaps
set_option maxRecDepth 100000

/-- A list within a row of lists: where it lies, its numbers, its capacity. -/
structure Row where
  at' : Option Addr
  ns : List Int
  cap : Nat
def Row.v (r : Row) : Value := .slice r.at' r.ns.length r.cap
def RowsAt (w : World) (p : Option Addr) (l : List Row) : Prop := 0 < l.length → ∃ b off, p = some ⟨b, off, none⟩ ∧ ∀ i (hi : i < l.length), w.cell? ⟨b, off + i, none⟩ = some l[i].v
theorem RowsAt.later {w w' : World} {p : Option Addr} {l : List Row} (h : RowsAt w p l) (hb : Below w.heap.size w w') : RowsAt w' p l := fun h0 => by
  obtain ⟨b, off, h1, h2⟩ := h h0
  exact ⟨b, off, h1, fun i hi => cell_later hb (h2 i hi)⟩
/-- Each list of the row lies where it says. -/
def InAt (w : World) (l : List Row) : Prop := ∀ r ∈ l, IntsAt w r.at' r.ns
theorem InAt.later {w w' : World} {l : List Row} (h : InAt w l) (hb : Below w.heap.size w w') : InAt w' l := fun r hr => (h r hr).later hb

theorem IntsAt.grownBy {w w1 : World} {row : Option Nat} {p : Option Addr} {l : List Int} (h : IntsAt w p l) (hg : w.grownBy w1 row) (hne : ∀ a, p = some a → some a.block ≠ row) : IntsAt w1 p l := by
  intro h0
  obtain ⟨b, off, e, hc⟩ := h h0
  exact ⟨b, off, e, fun i hi => hg.cell (hc i hi) (hne ⟨b, off, none⟩ e)⟩
theorem IntsAt.set {w : World} {p : Option Addr} {l : List Int} (h : IntsAt w p l) (q : Addr) (u : Value) (hne : ∀ a, p = some a → a.block ≠ q.block) : IntsAt (w.setCell q u) p l := by
  intro h0
  obtain ⟨b, off, e, hc⟩ := h h0
  exact ⟨b, off, e, fun i hi => cell_set_far (hc i hi) (hne ⟨b, off, none⟩ e)⟩

theorem number_any (x : Int) (h : 0 ≤ x) (h2 : x ≤ 10000000) (w : World) :
    Calls Try.prog 47 #[.int .i64 x] w fun e w' => e = .returned (.int .i64 (numL x)) ∧ w' = w := by
  have HE : Hid (numL x = if odd x = true then -(x / 2) else x / 2) := rfl
  generalize numL x = R at *
  cases ho : odd x
  · have HR : Hid (R = x / 2) := by rw [HE.out, ho]; rfl
    have HT := hide (isTurned_any x h (by omega) w)
    rw [ho] at HT
    clear HE ho
    go_enter Try.func47, Try.ntmps47
    go_wp2_with (first | (go_at_call 55; refine HT.out.mono ?_; rintro e w' ⟨rfl, rfl⟩) | (go_at_call 56; refine (node_any _ (by omega) (by omega) _).mono ?_; rintro e w' ⟨rfl, rfl⟩))
    go_ret
    exact ⟨ret_int HR.out.symm, rfl⟩
  · have HR : Hid (R = -(x / 2)) := by rw [HE.out, ho]; rfl
    have HT := hide (isTurned_any x h (by omega) w)
    rw [ho] at HT
    clear HE ho
    go_enter Try.func47, Try.ntmps47
    go_wp2_with (first | (go_at_call 55; refine HT.out.mono ?_; rintro e w' ⟨rfl, rfl⟩) | (go_at_call 56; refine (node_any _ (by omega) (by omega) _).mono ?_; rintro e w' ⟨rfl, rfl⟩))
    go_ret
    exact ⟨ret_int HR.out.symm, rfl⟩

set_option maxHeartbeats 1000000 in
theorem cloneI_any (p : Option Addr) (cap : Nat) (l : List Int) (hl : l.length ≤ 1000001) (w : World) (hP : IntsAt w p l) :
    Calls Try.prog 34 #[.slice p l.length cap] w fun e w' => ∃ v, e = .returned v ∧ w'.ownsRow w.heap.size 3 1 v l.length (l.map (Value.int .i64)) ∧ Below w.heap.size w w' := by
  obtain ⟨i0, hi, hz0, hz1, hz2⟩ := info_parts info3
  have q36 : ∀ (w : World) (a : Option Addr) (n c n' c' : Nat), (binOp .eql 32 (.slice a n c) (.slice none n' c')).run Try.prog w = .ok (.bool a.isNone) w := fun w a n c n' c' => Lib.run_eql_slice_nil w _ _ a n c n' c' Try.underlying32
  cases p with
  | none =>
    have h0 : l = [] := by
      cases l with
      | nil => rfl
      | cons a t => obtain ⟨b, off, h, _⟩ := hP (by simp); cases h
    subst h0
    go_enter Try.func34, Try.ntmps34
    go_wp2
    go_ret
    exact ⟨_, rfl, World.ownsRow_nil _ _ _ _, Below.refl _ _⟩
  | some ad =>
    have HC := hide (ints_cells hP)
    clear hP
    go_enter Try.func34, Try.ntmps34
    go_wp2_with (at_builtin; refine wpList_append_own _ rfl _ _ 32 rfl w.heap.size 3 i0 (.int .i64 0) 1 8 Try.underlying32 hi hz0 hz1 hz2 rfl (by decide) _ _ _ rfl (World.ownsRow_made w #[] 0 (Nat.le_refl _) (Nat.zero_le _) rfl) ad l.length cap (l.map (Value.int .i64)) rfl ?qc1 ?qc2 ?qc3 ?qc4 ?qc5 ?qc6 ?_)
    case qc1 => simp
    case qc2 => intro j u hj; exact Lib.cell?_alloc_some _ (HC.out j u hj)
    case qc3 => intro u hu; obtain ⟨x, _, rfl⟩ := List.mem_map.1 hu; rfl
    case qc4 => unfold maxLen; omega
    case qc5 => omega
    case qc6 => simp
    intro v' w1 hown hgrow _
    go_wp2
    go_ret
    exact ⟨v', rfl, by simpa using hown, ((Below.refl _ w).alloc (Nat.le_refl _) _).grown hgrow (by simp) (by intro k hk; simp [Value.ownBlock] at hk; omega)⟩

theorem infoR : (Try.prog.info? 32).map (fun i => (i.zero, i.size, i.bytes)) = some (some (.slice none 0 0), 1, 24) := by kernel_rfl

/-- The memory of a maker of clauses. -/
structure Cm (w : World) (base M : Nat) (v : Value) (vars : Int) (rs : List Row) : Prop where
  c0 : w.cell? ⟨M, 0, none⟩ = some (.int .i64 vars)
  c1 : w.cell? ⟨M, 1, none⟩ = some v
  f0 : w.frozen? ⟨M, 0, none⟩ = false
  f1 : w.frozen? ⟨M, 1, none⟩ = false
  row : w.ownsRow base 32 1 v rs.length (rs.map Row.v)
  inn : InAt w rs
  hM : base ≤ M
  nv : v.ownBlock ≠ some M
  far : ∀ r ∈ rs, ∀ a, r.at' = some a → a.block ≠ M ∧ v.ownBlock ≠ some a.block ∧ a.block < w.heap.size ∧ base ≤ a.block

theorem Cm.below {w w1 : World} {base M : Nat} {v : Value} {vars : Int} {rs : List Row} (h : Cm w base M v vars rs) (hb : Below w.heap.size w w1) : Cm w1 base M v vars rs :=
  ⟨cell_later hb h.c0, cell_later hb h.c1, by rw [hb.frozen (World.block_lt_of_cell? _ _ h.c0)]; exact h.f0, by rw [hb.frozen (World.block_lt_of_cell? _ _ h.c1)]; exact h.f1, owns_below h.row hb, h.inn.later hb, h.hM, h.nv, fun r hr a ha => ⟨(h.far r hr a ha).1, (h.far r hr a ha).2.1, Nat.lt_of_lt_of_le (h.far r hr a ha).2.2.1 hb.size, (h.far r hr a ha).2.2.2⟩⟩

theorem owns_rows {w : World} {base : Nat} {v : Value} {rs : List Row} (h : w.ownsRow base 32 1 v rs.length (rs.map Row.v)) : ∃ p cap, v = .slice p rs.length cap ∧ RowsAt w p rs := by
  have h' := h
  obtain ⟨h1, h2⟩ := h
  rcases h2 with ⟨rfl, h0⟩ | ⟨g, cap, cur, rfl, hg, hh, hn, hm, hs, ht⟩
  · exact ⟨none, 0, by rw [h0], fun h => by omega⟩
  · refine ⟨_, cap, rfl, fun _ => ⟨g, 0, rfl, fun i hi => ?_⟩⟩
    rw [Nat.zero_add, h'.cellAt i (by omega), List.getElem?_map, List.getElem?_eq_getElem hi]
    rfl

/-- What an append of one more list leaves. -/
theorem add_memC {w1 w2 : World} {base M g cap : Nat} {v : Value} {vars : Int} {rs : List Row} {r : Row} {o : Obj} (hbs : base ≤ w1.heap.size)
    (hmk : Cm w1 base M v vars rs) (hr : IntsAt w1 r.at' r.ns) (hrf : ∀ a, r.at' = some a → a.block ≠ M ∧ v.ownBlock ≠ some a.block ∧ a.block < w1.heap.size ∧ base ≤ a.block)
    (hg : (w1.alloc o).grownBy w2 v.ownBlock)
    (hrow : w2.ownsRow base 32 1 (.slice (some ⟨g, 0, none⟩) (rs.length + 1) cap) (rs.length + 1) (rs.map Row.v ++ [r.v])) (hat : v.ownBlock = some g ∨ g = w1.heap.size + 1) :
    Cm (w2.setCell ⟨M, 1, none⟩ (.slice (some ⟨g, 0, none⟩) (rs.length + 1) cap)) base M (.slice (some ⟨g, 0, none⟩) (rs.length + 1) cap) vars (rs ++ [r]) ∧
    (∀ w0, Below base w0 w1 → Below base w0 (w2.setCell ⟨M, 1, none⟩ (.slice (some ⟨g, 0, none⟩) (rs.length + 1) cap))) ∧
    (∀ (q : Addr) x, w1.cell? q = some x → q.block ≠ M → v.ownBlock ≠ some q.block → (w2.setCell ⟨M, 1, none⟩ (.slice (some ⟨g, 0, none⟩) (rs.length + 1) cap)).cell? q = some x) := by
  have hM := World.block_lt_of_cell? _ _ hmk.c1
  simp only at hM
  have hgM : g ≠ M := by
    rcases hat with h | h
    · intro e; exact hmk.nv (by rw [h, e])
    · omega
  have k0 := hg.cell (past1 hmk.c0 o) (fun e => hmk.nv e.symm)
  have k1 := hg.cell (past1 hmk.c1 o) (fun e => hmk.nv e.symm)
  have hb : Below w1.heap.size w1 (w1.alloc o) := bal (Below.refl _ _) o
  have kf : ∀ j x, w1.cell? ⟨M, j, none⟩ = some x → w1.frozen? ⟨M, j, none⟩ = false → w2.frozen? ⟨M, j, none⟩ = false := fun j x h1 h2 => by
    rw [grown_frozen hg (past1 h1 o) (fun e => hmk.nv e.symm), hb.frozen hM]
    exact h2
  have hIn : ∀ q : Row, IntsAt w1 q.at' q.ns → (∀ a, q.at' = some a → a.block ≠ M ∧ v.ownBlock ≠ some a.block) → IntsAt (w2.setCell ⟨M, 1, none⟩ (.slice (some ⟨g, 0, none⟩) (rs.length + 1) cap)) q.at' q.ns := fun q h1 h2 =>
    ((h1.later hb).grownBy hg (fun a ha e => (h2 a ha).2 e.symm)).set _ _ (fun a ha => (h2 a ha).1)
  have hsz2 : w1.heap.size ≤ w2.heap.size := by have := hg.size; simp at this; omega
  have hFar : ∀ q : Row, (∀ a, q.at' = some a → a.block ≠ M ∧ v.ownBlock ≠ some a.block ∧ a.block < w1.heap.size ∧ base ≤ a.block) → ∀ a, q.at' = some a → a.block ≠ M ∧ Value.ownBlock (.slice (some ⟨g, 0, none⟩) (rs.length + 1) cap) ≠ some a.block ∧ a.block < w2.heap.size ∧ base ≤ a.block := fun q h a ha => by
    obtain ⟨h1, h2, h3, h5⟩ := h a ha
    refine ⟨h1, ?_, by omega, h5⟩
    intro e
    have e' : g = a.block := by simpa [Value.ownBlock] using e
    rcases hat with h4 | h4
    · exact h2 (by rw [h4, e'])
    · omega
  refine ⟨⟨?_, ?_, ?_, ?_, ?_, ?_, hmk.hM, ?_, ?_⟩, ?_, ?_⟩
  · rw [World.cell?_setCell_other w2 _ _ _ (by simp)]; exact k0
  · exact World.cell?_setCell_same w2 _ _ k1
  · rw [World.frozen?_setCell]; exact kf _ _ hmk.c0 hmk.f0
  · rw [World.frozen?_setCell]; exact kf _ _ hmk.c1 hmk.f1
  · rw [List.length_append, List.map_append]
    exact owns_set hrow (by simpa [Value.ownBlock] using hgM)
  · intro q hq
    rcases List.mem_append.1 hq with h | h
    · exact hIn q (hmk.inn q h) (fun a ha => ⟨(hmk.far q h a ha).1, (hmk.far q h a ha).2.1⟩)
    · obtain rfl : q = r := by simpa using h
      exact hIn q hr (fun a ha => ⟨(hrf a ha).1, (hrf a ha).2.1⟩)
  · simpa [Value.ownBlock] using hgM
  · intro q hq
    have hs : ∀ u, (w2.setCell ⟨M, 1, none⟩ u).heap.size = w2.heap.size := fun u => by simp
    rcases List.mem_append.1 hq with h | h
    · intro a ha; rw [hs]; exact hFar q (hmk.far q h) a ha
    · obtain rfl : q = r := by simpa using h
      intro a ha; rw [hs]; exact hFar q hrf a ha
  · intro w0 hb
    refine Below.setCell ((hb.alloc hbs o).grown hg (by simp; omega) (fun k hk => (hmk.row.lt k hk).1)) hmk.hM _
  · intro q x hq h1 h2
    exact cell_set_far (hg.cell (past1 hq o) (fun e => h2 e.symm)) h1

theorem one_news (r : Row) (w : World) : ∀ j u, ([r.v] : List Value)[j]? = some u → (w.alloc (.cells #[r.v] 32)).cell? ((⟨w.heap.size, 0, none⟩ : Addr).add j) = some u := fun j u hj => by
  match j, hj with
  | 0, hj => simp at hj; subst hj; simp [go_sem, Addr.add]
theorem one_cell (r : Row) : ∀ u ∈ ([r.v] : List Value), u.oneCell' = true := fun u hu => by
  simp at hu; subst hu; rfl

set_option maxRecDepth 100000 in
set_option maxHeartbeats 4000000 in
theorem addC_any (base M : Nat) (v : Value) (vars : Int) (rs : List Row) (hrs : rs.length ≤ 4000000) (l : List Int) (hl : l.length ≤ 1000) (q : Option Addr) (qc : Nat) (w : World) (hbs : base ≤ w.heap.size) (hmk : Cm w base M v vars rs) (hI : IntsAt w q l) :
    Calls Try.prog 48 #[.pointer (some ⟨M, 0, none⟩), .slice q l.length qc] w fun e w' => e = .returned (.tuple #[]) ∧ ∃ v' r, r.ns = l ∧ Cm w' base M v' vars (rs ++ [r]) ∧ Below base w w' := by
  have HCL : Hid (∀ w1, Below w.heap.size w w1 → Calls Try.prog 34 #[.slice q l.length qc] w1 fun e w' => ∃ (pr : Option Addr) (cr : Nat), e = .returned (.slice pr l.length cr) ∧ IntsAt w' pr l ∧ (∀ a, pr = some a → w1.heap.size ≤ a.block ∧ a.block < w'.heap.size) ∧ Below w1.heap.size w1 w') :=
    fun w1 hb => (cloneI_any q qc l (by omega) w1 (hI.later hb)).mono fun e w' ⟨u, he, ho, hb⟩ => by
      have hlt := ho.lt
      obtain ⟨pv, cv, rfl, h1, _⟩ := owns_ints ho
      refine ⟨pv, cv, he, h1, fun a ha => ?_, hb⟩
      cases ha
      have := hlt a.block (by simp [Value.ownBlock])
      exact this
  obtain ⟨i0, hi, hz0, hz1, hz2⟩ := info_parts infoR
  obtain ⟨pv, cv, rfl, _⟩ := owns_rows hmk.row
  have m1 := hmk.c1
  have f1 := hmk.f1
  have HMK := hide hmk
  have HIN := hide (And.intro hi (And.intro hz0 (And.intro hz1 hz2)))
  have hlt0 := World.block_lt_of_cell? _ _ hmk.c1
  simp only at hlt0
  clear hI hmk hi hz0 hz1 hz2
  go_enter Try.func48, Try.ntmps48
  go_wp2
  go_region_law (first
    | (go_simp; go_at_call 34; refine (HCL.out _ (Below.refl _ _).drew).mono ?_; rintro e w1 ⟨pr, cr, rfl, hri, hrb, hb1⟩; have hmk1 := HMK.out.below (show Below w.heap.size w w1 from (Below.refl _ w).drew.trans hb1); have m1' := hmk1.c1; have f1' := hmk1.f1; have HMK1 := hide hmk1; have hM1 := World.block_lt_of_cell? _ _ m1'; simp only at hM1; have hM2 := World.new_ne w1 ⟨M, 1, none⟩ m1'; simp only at hM2; clear hmk1)
    | (refine step_append_lies _ rfl (.tmp 9) (.tmp 12) 22 rfl base 32 i0 (.slice none 0 0) 1 24 Try.underlying22 HIN.out.1 HIN.out.2.1 HIN.out.2.2.1 HIN.out.2.2.2 rfl (by decide) _ rs.length (rs.map Row.v) (by simp [Act.eval]) (HMK1.out.row.alloc _) ⟨w1.heap.size, 0, none⟩ 1 1 [(Row.mk pr l cr).v] (by simp [Act.eval]) rfl (one_news ⟨pr, l, cr⟩ w1) (one_cell ⟨pr, l, cr⟩) (by decide) (by unfold maxLen; omega) (by omega) (by simp; have := hb1.size; simp at this; omega) (w1.heap.size + 1) (by simp) ?_
       intro g cap w2 hown2 hg2 hat2 hlt2
       have g1 := hg2.cell (a := ⟨M, 1, none⟩) (past1 m1' _) (fun e => HMK1.out.nv e.symm)
       have f2 : w2.frozen? ⟨M, 1, none⟩ = false := (grown_frozen hg2 (past1 m1' _) (fun e => HMK1.out.nv e.symm)).trans (((bal (Below.refl _ _) _).frozen (World.block_lt_of_cell? _ _ m1')).trans f1')))
  all_goals
    have hmem := add_memC (r := ⟨pr, l, cr⟩) (by have := hb1.size; simp at this; omega) HMK1.out hri (fun a ha => by
      have h1 := hrb a ha
      simp at h1
      refine ⟨by omega, fun e => ?_, h1.2, by omega⟩
      have := (HMK.out.row.lt _ e).2
      omega) hg2 hown2 hat2
    have HMM := hide hmem
    have HB : Hid (Below base w w1) := ((Below.refl _ w).drew.trans (show Below w.heap.size w.drew w1 from hb1)).mono hbs
    clear hmem
    go_end0
    exact ⟨rfl, _, _, rfl, HMM.out.1, HMM.out.2.1 _ HB.out⟩

end Go.Proofs.Ytdlfjijfdibocaa
