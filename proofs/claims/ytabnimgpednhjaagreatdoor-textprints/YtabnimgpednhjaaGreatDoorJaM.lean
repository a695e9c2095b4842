/- Lines: a line of numbers is written. -/
import Derived.Test.YtabnimgpednhjaaGreatDoorHcM
import Derived.Lib.AppendIntMem
import Derived.Test.YtabnimgpednhjaaGreatDoorShelf
import Derived.Deep.RegionLaw
import Derived.Deep.AppendLies
namespace Go.Proofs.YtabnimgpednhjaaGreatDoor
open Go.RowKit
set_option maxRecDepth 100000

def IntsAt (w : World) (p : Option Addr) (l : List Int) : Prop := 0 < l.length → ∃ b off, p = some ⟨b, off, none⟩ ∧ ∀ i (hi : i < l.length), w.cell? ⟨b, off + i, none⟩ = some (.int .i64 l[i])
theorem IntsAt.later {w w' : World} {p : Option Addr} {l : List Int} (h : IntsAt w p l) (hb : Below w.heap.size w w') : IntsAt w' p l := fun h0 => by
  obtain ⟨b, off, h1, h2⟩ := h h0
  exact ⟨b, off, h1, fun i hi => cell_later hb (h2 i hi)⟩
def itoaB (n : Int) : ByteArray := ⟨(Lib.itoa n).toArray⟩
theorem others_of {B : Nat} {e : TypeId} {b : Option Nat} {w w' : World} (h : Below B w w') (hB : w.heap.size ≤ B) : Lib.OthersKept e b w w' := fun k o hk _ _ => by
  rw [h.block k (by have := (Array.getElem?_eq_some_iff.1 hk).1; omega)]
  exact hk
theorem builder_later {T e : TypeId} {B b : Nat} {bs : List Value} {w w' : World} (h : Lib.IsBuilder T e B b bs w) (hb : Below w.heap.size w w') : Lib.IsBuilder T e B b bs w' := by
  have key : ∀ p, Lib.BuilderAt T e B b p bs w → Lib.BuilderAt T e B b p bs w' := by
    intro p h
    have hlt := h.lt
    obtain ⟨hB, v, hbk, hown, hne⟩ := h
    refine ⟨hB, v, (hb.block b hlt).trans hbk, ⟨hown.1, ?_⟩, hne⟩
    rcases hown.2 with hn | ⟨g, cap, cur, hv, hbg, hg, rest⟩
    · exact .inl hn
    · exact .inr ⟨g, cap, cur, hv, hbg, (hb.block g (Array.getElem?_eq_some_iff.1 hg).1).trans hg, rest⟩
  rcases h with h | h
  · exact .inl (key _ h)
  · exact .inr (key _ h)
theorem strs_of {w : World} {base : Nat} {v : Value} {l : List ByteArray} (h : w.ownsRow base 9 1 v l.length (l.map Value.string)) : ∃ p cap, v = .slice p l.length cap ∧ StrsAt w p l := by
  rcases h.2 with ⟨rfl, h0⟩ | ⟨g, cap, cur, rfl, hg, hh, hn, hm, hs, ht⟩
  · exact ⟨none, 0, by rw [h0], fun h => by omega⟩
  · refine ⟨_, cap, rfl, fun _ => ⟨g, 0, cur, _, rfl, hh, fun i hi => ?_⟩⟩
    have e : (cur.toList.take (l.length * 1))[i]? = (l.map Value.string)[i]? := by rw [ht]
    rw [List.getElem?_take_of_lt (by omega), List.getElem?_map, List.getElem?_eq_getElem hi] at e
    rw [Nat.zero_add, ← Array.getElem?_toList]
    exact e
theorem info9 : (Tryz.prog.info? 9).map (fun i => (i.zero, i.size, i.bytes)) = some (some (.string ⟨#[]⟩), 1, 16) := by kernel_rfl

theorem tab_later {w w' : World} (h : Lib.TabIs Tryz.prog w "internal/strconv.uint64pow10" .u64 Lib.pow10Tab) (hb : Below w.heap.size w w') : Lib.TabIs Tryz.prog w' "internal/strconv.uint64pow10" .u64 Lib.pow10Tab := Lib.tabBelow_of_tabIs h w' hb

/-- The words of a line of numbers, so far. -/
def numsN (s : ByteArray) (ns : List Int) (k : Nat) : List ByteArray := s :: (ns.take k).map itoaB
theorem numsN_len {s : ByteArray} {ns : List Int} {k : Nat} (h : k ≤ ns.length) : (numsN s ns k).length = k + 1 := by simp [numsN]; omega
theorem numsN_succ {s : ByteArray} {ns : List Int} {k : Nat} (h : k < ns.length) : numsN s ns (k + 1) = numsN s ns k ++ [itoaB ns[k]] := by
  unfold numsN
  rw [List.take_add_one, List.getElem?_eq_getElem h, List.map_append]
  rfl
theorem numsN_all {s : ByteArray} {ns : List Int} : numsN s ns ns.length = s :: ns.map itoaB := by simp [numsN]
theorem own_one (s : ByteArray) (w : World) : (w.alloc (.cells #[.string s] 9)).ownsRow w.heap.size 9 1 (.slice (some ⟨w.heap.size, 0, none⟩) 1 1) 1 [.string s] :=
  ⟨rfl, .inr ⟨w.heap.size, 1, _, rfl, Nat.le_refl _, heap_alloc_new w _, Nat.le_refl _, by decide, rfl, rfl⟩⟩
theorem own_below {w w' : World} {base : Nat} {e : TypeId} {v : Value} {n : Nat} {xs : List Value} (h : w.ownsRow base e 1 v n xs) (hb : Below w.heap.size w w') : w'.ownsRow base e 1 v n xs := by
  refine ⟨h.1, ?_⟩
  rcases h.2 with hn | ⟨g, cap, cur, hv, hbg, hg, rest⟩
  · exact .inl hn
  · exact .inr ⟨g, cap, cur, hv, hbg, (hb.block g (Array.getElem?_eq_some_iff.1 hg).1).trans hg, rest⟩

set_option maxHeartbeats 2000000 in
set_option maxRecDepth 100000 in
theorem numbers_any (B b : Nat) (l : List UInt8) (s : ByteArray) (p : Option Addr) (cap : Nat) (ns : List Int) (w : World) (h : Lib.IsBuilder 45 5 B b (Lib.byteCells l) w) (hI : IntsAt w p ns) (hns : ns.length ≤ 1000) (hbd : ∀ n ∈ ns, -9223372036854775808 ≤ n ∧ n ≤ 9223372036854775807)
    (hlen : l.length + (lineN (s :: ns.map itoaB) (ns.length + 1)).length + 1 ≤ 140737488355328) (hBw : B ≤ w.heap.size) (htab : Lib.TabIs Tryz.prog w "internal/strconv.uint64pow10" .u64 Lib.pow10Tab) :
    Calls Tryz.prog 40 #[.pointer (some ⟨b, 0, none⟩), .string s, .slice p ns.length cap] w fun e w' => e = .returned (.tuple #[]) ∧ (Lib.IsBuilder 45 5 B b (Lib.byteCells (l ++ lineN (s :: ns.map itoaB) (ns.length + 1) ++ [10])) w' ∧ Below B w w' ∧ Lib.OthersKept 5 (some b) w w') := by
  obtain ⟨i0, hi, hz0, hz1, hz2⟩ := info_parts info9
  have H := hide h
  have HI := hide hI
  have HT := hide htab
  have HB := hide hbd
  have HL := hide hlen
  clear h hI htab hbd hlen
  go_enter Tryz.func40, Tryz.ntmps40
  go_wp2
  go_loopw [6, 8, 13] (fun v _ c wr => ∃ k : Nat, k ≤ ns.length ∧ c = .int .i64 k ∧ Hid (wr.ownsRow w.heap.size 9 1 v (numsN s ns k).length ((numsN s ns k).map Value.string) ∧ Below w.heap.size w wr)) (fun _ _ c _ => ns.length - (intOf c).toNat)
  case atStart => exact ⟨0, Nat.zero_le _, rfl, own_one s w, (Below.refl _ _).alloc (Nat.le_refl _) _⟩
  case round =>
    obtain ⟨k, hk, rfl, HR⟩ := hrel
    by_cases hlt : k < ns.length
    · obtain ⟨g, off, rfl, hc⟩ := (HI.out.later HR.out.2) (by omega)
      have hck := hc k hlt
      clear hc
      have HS := hide (numsN_succ (s := s) hlt)
      have HX := hide (HB.out ns[k] (List.getElem_mem hlt))
      have HN := hide (numsN_len (s := s) hk)
      generalize ns[k] = n at *
      go_wp2_with fail
      refine (Tryz.strconv_Itoa n HX.out.1 HX.out.2 _ (tab_later HT.out HR.out.2)).mono ?_
      rintro e w2 ⟨rfl, kk, os, rfl⟩
      have hb2 := Lib.below_grow wr.heap.size wr (Nat.le_refl _) kk os
      generalize Sort.grow (wr.drewN kk) os = w2 at *
      have ho2 := own_below HR.out.1 hb2
      have hb3 := HR.out.2.trans (hb2.mono HR.out.2.size)
      go_wp2_with (at_builtin; refine wpList_append_own _ rfl _ _ 66 rfl w.heap.size 9 i0 (.string ⟨#[]⟩) 1 16 Tryz.underlying66 hi hz0 hz1 hz2 rfl (by decide) _ _ _ rfl (ho2.alloc _) ⟨w2.heap.size, 0, none⟩ 1 1 [.string (itoaB n)] rfl rfl ?c1 ?c2 ?c3 ?c4 ?c5 ?_)
      case c1 =>
        intro j u hj
        match j, hj with
        | 0, hj => simp at hj; subst hj; simp [Addr.add, itoaB]
      case c2 => intro u hu; simp at hu; subst hu; rfl
      case c3 => have := HN.out; unfold maxLen; omega
      case c4 => have := HN.out; omega
      case c5 => have := hb3.size; simp; omega
      intro v' w3 hown hgrow _
      have HV := hide (show w3.ownsRow w.heap.size 9 1 v' (numsN s ns (k + 1)).length ((numsN s ns (k + 1)).map Value.string) ∧ Below w.heap.size w w3 from ⟨by rw [HS.out]; simpa using hown, (hb3.alloc hb3.size _).grown hgrow (by have := hb3.size; simp; omega) (fun j hj => (ho2.lt j hj).1)⟩)
      clear hown hgrow hb3 ho2 hb2 HR HS HX HN
      go_wp2
      go_roundw
      case rel => exact ⟨k + 1, by omega, by go_num, HV⟩
      case measure => simp [intOf]; omega
    · obtain rfl : k = ns.length := by omega
      obtain ⟨q, qc, rfl, hsa⟩ := strs_of HR.out.1
      go_wp2_with fail
      have hN := numsN_len (s := s) (Nat.le_refl ns.length)
      refine (line_any B b l q qc (numsN s ns ns.length) wr (builder_later H.out HR.out.2) hsa (by rw [hN, numsN_all]; exact HL.out) (by omega) (by have := HR.out.2.size; omega)).mono ?_
      rintro e w2 ⟨rfl, h1, h2, h3⟩
      rw [hN, numsN_all] at h1
      go_wp2
      go_end0
      exact ⟨rfl, h1, (HR.out.2.mono hBw).trans h2, (others_of HR.out.2 (Nat.le_refl _)).trans h3⟩
end Go.Proofs.YtabnimgpednhjaaGreatDoor

namespace Go.Proofs.YtabnimgpednhjaaGreatDoor
open Go.RowKit Go.Deep
set_option maxRecDepth 100000

theorem bal {w w1 : World} (h : Below w.heap.size w w1) (o : Obj) : Below w.heap.size w (w1.alloc o) := h.alloc h.size o
theorem belowAl {w w1 w2 : World} (h : Below w.heap.size w w1) (k : Below w1.heap.size w1 w2) : Below w.heap.size w w2 := h.trans (k.mono h.size)
theorem past1 {w : World} {p : Addr} {v : Value} (h : w.cell? p = some v) (o : Obj) : (w.alloc o).cell? p = some v := cell_later (bal (Below.refl _ _) o) h
abbrev Pow (w : World) : Prop := Lib.TabIs Tryz.prog w "internal/strconv.uint64pow10" .u64 Lib.pow10Tab
theorem itoaC (x : Int) (h0 : -9223372036854775808 ≤ x) (h1 : x ≤ 9223372036854775807) (w : World) (ht : Pow w) : Calls Tryz.prog 36 #[.int .i64 x] w fun e w' => e = .returned (.string (itoaB x)) ∧ Below w.heap.size w w' := by
  refine (Tryz.strconv_Itoa x h0 h1 w ht).mono ?_
  rintro e w' ⟨rfl, kk, os, rfl⟩
  exact ⟨rfl, Lib.below_grow w.heap.size w (Nat.le_refl _) kk os⟩

/-- The words so far, in a variable of their own. -/
structure Wm (w : World) (base V : Nat) (v : Value) (ws : List ByteArray) : Prop where
  c : w.heap[V]? = some (.cells #[v] 66 (0, 0))
  row : w.ownsRow base 9 1 v ws.length (ws.map Value.string)
  hV : base ≤ V
theorem Wm.later {w w' : World} {base V : Nat} {v : Value} {ws : List ByteArray} (h : Wm w base V v ws) (hb : Below w.heap.size w w') : Wm w' base V v ws :=
  ⟨(hb.block _ (Array.getElem?_eq_some_iff.1 h.c).1).trans h.c, own_below h.row hb, h.hV⟩
theorem one_news (s : ByteArray) (w : World) : ∀ j u, ([.string s] : List Value)[j]? = some u → (w.alloc (.cells #[.string s] 9)).cell? ((⟨w.heap.size, 0, none⟩ : Addr).add j) = some u := fun j u hj => by
  match j, hj with
  | 0, hj => simp at hj; subst hj; simp [go_sem, Addr.add]
theorem one_cell (s : ByteArray) : ∀ u ∈ ([.string s] : List Value), u.oneCell' = true := fun u hu => by
  simp at hu; subst hu; rfl
theorem Wm.put {w w2 : World} {base V : Nat} {v v' : Value} {ws : List ByteArray} {s : ByteArray} (h : Wm w base V v ws) (o : Obj) (hg : (w.alloc o).grownBy w2 v.ownBlock) (hown : w2.ownsRow base 9 1 v' (ws ++ [s]).length ((ws ++ [s]).map Value.string)) (hbase : base ≤ w.heap.size) :
    Wm (w2.setCell ⟨V, 0, none⟩ v') base V v' (ws ++ [s]) ∧ Below base w (w2.setCell ⟨V, 0, none⟩ v') ∧ Lib.OthersKept 9 (some V) w (w2.setCell ⟨V, 0, none⟩ v') := by
  have h1 := h.later (bal (Below.refl _ _) o)
  have hne := Lib.ownBlock_ne h1.row h1.c (by decide)
  have hlt := (Array.getElem?_eq_some_iff.1 h1.c).1
  have t2 : w2.heap[V]? = some (.cells #[v] 66 (0, 0)) := (hg.block _ hlt (fun e => hne e.symm)).trans h1.c
  refine ⟨⟨?_, ?_, h.hV⟩, ?_, ?_⟩
  · rw [heap_setCell_same _ _ _ _ _ _ t2]; rfl
  · exact ownsRow_setCell_other hown (Lib.ownBlock_ne hown t2 (by decide)) _
  · exact (((Below.refl base w).alloc hbase o).grown hg (by simp; omega) (fun j hj => (h1.row.lt j hj).1)).setCell (p := ⟨V, 0, none⟩) h.hV _
  · have k1 : Lib.OthersKept 9 (some V) w (w.alloc o) := (Lib.OthersKept.refl _ _ _).alloc o
    exact (k1.grown hg (own_kind h1.row)).setCell ⟨V, 0, none⟩ rfl _

set_option maxHeartbeats 4000000 in
theorem node1_any (base V nb i : Nat) (v : Value) (ws : List ByteArray) (hws : ws.length ≤ 1000) (x : Int) (h0 : -9223372036854775808 ≤ x) (h1 : x ≤ 9223372036854775807) (w : World) (hbs : base ≤ w.heap.size) (hm : Wm w base V v ws) (hx : w.cell? ⟨nb, i, none⟩ = some (.int .i64 x)) (ht : Pow w) :
    Calls Tryz.prog 38 #[.pointer (some ⟨nb, i, none⟩), .pointer (some ⟨V, 0, none⟩)] w fun e w' => e = .returned (.tuple #[]) ∧ (∃ v', Wm w' base V v' (ws ++ [itoaB x])) ∧ Below base w w' ∧ Lib.OthersKept 9 (some V) w w' := by
  obtain ⟨i0, hi, hz0, hz1, hz2⟩ := info_parts info9
  obtain ⟨pv, cv, rfl, _⟩ := strs_of hm.row
  have HIT := hide (fun (w' : World) (hb : Below w.heap.size w w') => itoaC x h0 h1 w' (tab_later ht hb))
  have m0 : w.cell? ⟨V, 0, none⟩ = some (.slice pv ws.length cv) := by rw [Lib.cell_of_heap hm.c]; rfl
  have f0 : w.frozen? ⟨V, 0, none⟩ = false := Lib.frozen_of_heap hm.c 0
  have HM := hide hm
  have HIN := hide (And.intro hi (And.intro hz0 (And.intro hz1 hz2)))
  clear hm ht hi hz0 hz1 hz2
  go_enter Tryz.func38, Tryz.ntmps38
  go_wp2
  go_region_law (first
    | (go_simp; go_at_call 36; refine (HIT.out _ (Below.refl _ _).drew).mono ?_; rintro e w1 ⟨rfl, hb1⟩; have hb1' := (show Below w.heap.size w w1 from (Below.refl _ w).drew.trans hb1); have hm1 := HM.out.later hb1'; have m1 : w1.cell? ⟨V, 0, none⟩ = some (.slice pv ws.length cv) := by rw [Lib.cell_of_heap hm1.c]; rfl
       have HM1 := hide hm1
       have hM1 := World.block_lt_of_cell? _ _ m1
       simp only at hM1
       have hM2 := World.new_ne w1 ⟨V, 0, none⟩ m1
       simp only at hM2
       clear hm1)
    | (refine step_append_lies _ rfl (.tmp 3) (.tmp 8) 66 rfl base 9 i0 (.string ⟨#[]⟩) 1 16 Tryz.underlying66 HIN.out.1 HIN.out.2.1 HIN.out.2.2.1 HIN.out.2.2.2 rfl (by decide) _ ws.length (ws.map Value.string) (by simp [Act.eval]) (HM1.out.row.alloc _) ⟨w1.heap.size, 0, none⟩ 1 1 [.string (itoaB x)] (by simp [Act.eval]) rfl (one_news (itoaB x) w1) (one_cell (itoaB x)) (by decide) (by unfold maxLen; omega) (by omega) (by simp; have := hb1'.size; omega) (w1.heap.size + 1) (by simp) ?_
       intro g cap w2 hown2 hg2 hat2 hlt2
       have hb2 := HM1.out.later (bal (Below.refl _ _) (.cells #[.string (itoaB x)] 9))
       have t2 : w2.heap[V]? = some (.cells #[.slice pv ws.length cv] 66 (0, 0)) := (hg2.block _ (Array.getElem?_eq_some_iff.1 hb2.c).1 (fun e => Lib.ownBlock_ne hb2.row hb2.c (by decide) e.symm)).trans hb2.c
       have g2 : w2.cell? ⟨V, 0, none⟩ = some (.slice pv ws.length cv) := by rw [Lib.cell_of_heap t2]; rfl
       have f2 : w2.frozen? ⟨V, 0, none⟩ = false := Lib.frozen_of_heap t2 0))
  all_goals
    have hp := HM1.out.put (s := itoaB x) (.cells #[.string (itoaB x)] 9) hg2 (by simpa using hown2) (by have := hb1'.size; omega)
    have HP := hide hp
    have HB := hide (hb1'.mono hbs)
    have HK : Hid (Lib.OthersKept 9 (some V) w w1) := others_of hb1' (Nat.le_refl _)
    clear hp
    go_end0
    exact ⟨rfl, ⟨_, HP.out.1⟩, HB.out.trans HP.out.2.1, HK.out.trans HP.out.2.2⟩
end Go.Proofs.YtabnimgpednhjaaGreatDoor
