/- trace.Bad, for any model and trace. -/
import Derived.Test.YtfobcnhibhbbaaaGreatDoorKw
import Derived.Test.YtfobcnhibhbbaaaGreatDoorYgM
namespace Go.Proofs.YtfobcnhibhbbaaaGreatDoor.Ev.Xp
open Go.RowKit
set_option maxRecDepth 100000

/-- Was it bad at the last of the first k of its Inputs? -/
def lastN (ns : List Nd) (xs : List (Int × Int)) (bs hs : List Int) (L : List (List Int)) (s0 : Sg) : Nat → Bool
  | 0 => false
  | k + 1 => (mvOf ns xs bs hs (stN ns xs L s0 k) (L.getD k [])).2.1
/-- Is a trace bad? -/
def badT (ns : List Nd) (is xs : List (Int × Int)) (bs hs : List Int) (st : List Int) (L : List (List Int)) : Bool :=
  decide (wkE ns is xs bs hs st L = 0) && heldN ns xs bs hs L (beginI ns is 0 st) L.length && lastN ns xs bs hs L (beginI ns is 0 st) L.length
theorem enter17 (args : Array Value) (w : World) : (callFunc 17 args).run Tryz.prog w = .ok (.enter 17 args) w := by kernel_rfl
set_option maxHeartbeats 1000000 in
theorem bad1G (v : Value) (hd bd xh xl : Bool) (h l : Nat) (hne : h ≠ l) (w : World) (hh : w.heap[h]? = some (.cells #[.bool xh] 4 (0, 0))) (hl : w.heap[l]? = some (.cells #[.bool xl] 4 (0, 0))) :
    Calls Tryz.prog 17 #[v, .bool hd, .bool bd, .pointer (some ⟨h, 0, none⟩), .pointer (some ⟨l, 0, none⟩)] w fun e w' => e = .returned (.tuple #[]) ∧ w' = (w.setCell ⟨h, 0, none⟩ (.bool (xh && hd))).setCell ⟨l, 0, none⟩ (.bool bd) := by
  have c0 : w.cell? ⟨h, 0, none⟩ = some (.bool xh) := by rw [Lib.cell_of_heap hh]; rfl
  have f0 : w.frozen? ⟨h, 0, none⟩ = false := Lib.frozen_of_heap hh 0
  have f1 : w.frozen? ⟨l, 0, none⟩ = false := Lib.frozen_of_heap hl 0
  have c1 : w.cell? ⟨l, 0, none⟩ = some (.bool xl) := by rw [Lib.cell_of_heap hl]; rfl
  have c2 : (w.setCell ⟨h, 0, none⟩ (.bool (xh && hd))).cell? ⟨l, 0, none⟩ = some (.bool xl) := by rw [World.cell?_setCell_other _ _ _ _ (by simp)]; exact c1
  clear hh hl
  cases xh
  · simp only [Bool.false_and] at *
    go_enter Tryz.func17, Tryz.ntmps17
    go_wp2
    go_end0
    exact ⟨rfl, rfl⟩
  · simp only [Bool.true_and] at *
    go_enter Tryz.func17, Tryz.ntmps17
    go_wp2
    go_end0
    exact ⟨rfl, rfl⟩
def BadG (h l : Nat) (HD LT : Nat → Bool) (k : Nat) (w : World) : Prop := w.heap[h]? = some (.cells #[.bool (HD k)] 4 (0, 0)) ∧ w.heap[l]? = some (.cells #[.bool (LT k)] 4 (0, 0))
theorem bad_looksG {w0 w : World} {h l n : Nat} (hne : h ≠ l) (h0 : w0.heap.size ≤ h) (l0 : w0.heap.size ≤ l) (h1 : h < w.heap.size) (l1 : l < w.heap.size) (S : Nat → Sg) (hd bd HD LT : Nat → Bool) (hHD : ∀ k, HD (k + 1) = (HD k && hd k)) (hLT : ∀ k, LT (k + 1) = bd k) :
    LooksG 17 #[.pointer (some ⟨h, 0, none⟩), .pointer (some ⟨l, 0, none⟩)] w0 w n S hd bd (BadG h l HD LT) := by
  refine ⟨fun k w1 w2 hj hb => ⟨(hb.block _ (Array.getElem?_eq_some_iff.1 hj.1).1).trans hj.1, (hb.block _ (Array.getElem?_eq_some_iff.1 hj.2).1).trans hj.2⟩, fun k wr v hk hsz hbw hj _ => ?_⟩
  refine (show Calls Tryz.prog 17 #[v, .bool (hd k), .bool (bd k), .pointer (some ⟨h, 0, none⟩), .pointer (some ⟨l, 0, none⟩)] wr _ from (bad1G v (hd k) (bd k) (HD k) (LT k) h l hne wr hj.1 hj.2).mono ?_)
  rintro e w' ⟨rfl, rfl⟩
  have c0 : wr.cell? ⟨h, 0, none⟩ = some (.bool (HD k)) := by rw [Lib.cell_of_heap hj.1]; rfl
  have c1 : wr.cell? ⟨l, 0, none⟩ = some (.bool (LT k)) := by rw [Lib.cell_of_heap hj.2]; rfl
  have e1 : (wr.setCell ⟨h, 0, none⟩ (.bool (HD k && hd k))).heap[h]? = some (.cells #[.bool (HD k && hd k)] 4 (0, 0)) := by rw [heap_setCell_same _ _ _ _ _ _ hj.1]; rfl
  have e2 : (wr.setCell ⟨h, 0, none⟩ (.bool (HD k && hd k))).heap[l]? = some (.cells #[.bool (LT k)] 4 (0, 0)) := by rw [heap_setCell_other _ _ _ _ (by simpa using hne.symm)]; exact hj.2
  refine ⟨rfl, ⟨?_, ?_⟩, ((Below.refl _ _).setCell h0 _).setCell l0 _, fun g cs T fr hg _ _ => ?_, fun a n ha => ?_⟩
  · rw [heap_setCell_other _ _ _ _ (by simpa using hne), hHD]; exact e1
  · rw [heap_setCell_same _ _ _ _ _ _ e2, hLT]; rfl
  · rw [heap_setCell_other _ _ _ _ (by simp; omega), heap_setCell_other _ _ _ _ (by simp; omega)]
  · rw [World.cell?_setCell_other _ _ _ _ ?_, World.cell?_setCell_other _ _ _ _ ?_]
    · exact ha
    · rintro rfl
      rw [c0] at ha
      cases ha
    · rintro rfl
      rw [c1] at ha
      cases ha
set_option maxHeartbeats 4000000 in
theorem bad_any (a0 a1 a2 a3 a4 : Option Addr) (c0 c1 c2 c3 c4 : Nat) (ns : List Nd) (is xs : List (Int × Int)) (bs hs : List Int) (hln : ns.length ≤ 2932031007402) (hli : is.length ≤ 8796093022208) (hlx : xs.length ≤ 8796093022208) (hlb : bs.length ≤ maxLen) (hlh : hs.length ≤ maxLen)
    (st : List Int) (sp rp : Option Addr) (sc rc : Nat) (L : List (List Int)) (hlr : ∀ r ∈ L, r.length ≤ maxLen) (w : World) (hMd : MdAt ⟨a0, c0, a1, is.length, c1, a2, xs.length, c2, a3, bs.length, c3, a4, hs.length, c4⟩ ns is xs bs hs w) (hS0 : SL w (.slice sp st.length sc) st) (hR0 : RowsS w rp L) :
    Calls Tryz.prog 7 #[Mv.val ⟨a0, c0, a1, is.length, c1, a2, xs.length, c2, a3, bs.length, c3, a4, hs.length, c4⟩ ns.length, .agg #[.slice sp st.length sc, .slice rp L.length rc]] w fun e w' => e = .returned (.tuple #[.bool (badT ns is xs bs hs st L), .int .i64 (wkE ns is xs bs hs st L)]) ∧ Below w.heap.size w w' := by
  have hmf : ∀ (fn : Fn) (first cap : Array Value) (w : World), (Instr.makeFunc fn first cap).run Tryz.prog w = .ok (.func fn first cap) w := fun _ _ _ _ => rfl
  have hbA : Below w.heap.size w ((((w.alloc (.cells (Mv.cells ⟨a0, c0, a1, is.length, c1, a2, xs.length, c2, a3, bs.length, c3, a4, hs.length, c4⟩ ns.length) 26)).alloc (.cells #[.slice sp st.length sc, .slice rp L.length rc] 29)).alloc (.cells #[.bool true] 4)).alloc (.cells #[.bool false] 4)) := bal (bal (bal (bal (Below.refl _ _) _) _) _) _
  have hJ : BadG (w.heap.size + 1 + 1) (w.heap.size + 1 + 1 + 1) (heldN ns xs bs hs L (beginI ns is 0 st)) (lastN ns xs bs hs L (beginI ns is 0 st)) 0 ((((w.alloc (.cells (Mv.cells ⟨a0, c0, a1, is.length, c1, a2, xs.length, c2, a3, bs.length, c3, a4, hs.length, c4⟩ ns.length) 26)).alloc (.cells #[.slice sp st.length sc, .slice rp L.length rc] 29)).alloc (.cells #[.bool true] 4)).alloc (.cells #[.bool false] 4)) := by
    generalize Mv.cells ⟨a0, c0, a1, is.length, c1, a2, xs.length, c2, a3, bs.length, c3, a4, hs.length, c4⟩ ns.length = mc
    constructor
    · refine (Below.heap_alloc _ _ _ (by simp)).trans ?_
      have := heap_alloc_new ((w.alloc (.cells mc 26)).alloc (.cells #[.slice sp st.length sc, .slice rp L.length rc] 29)) (.cells #[.bool true] 4)
      rw [World.size_alloc, World.size_alloc] at this
      exact this
    · have := heap_alloc_new (((w.alloc (.cells mc 26)).alloc (.cells #[.slice sp st.length sc, .slice rp L.length rc] 29)).alloc (.cells #[.bool true] 4)) (.cells #[.bool false] 4)
      rw [World.size_alloc, World.size_alloc, World.size_alloc] at this
      exact this
  have HW := hide (walk_any 17 #[.pointer (some ⟨w.heap.size + 1 + 1, 0, none⟩), .pointer (some ⟨w.heap.size + 1 + 1 + 1, 0, none⟩)] enter17 a0 a1 a2 a3 a4 c0 c1 c2 c3 c4 ns is xs bs hs hln hli hlx hlb hlh st sp rp sc rc L hlr _ w _ hMd hS0 hR0 hbA hJ (bad_looksG (by omega) (by omega) (by omega) (by simp) (by simp) _ _ _ _ _ (fun _ => rfl) (fun _ => rfl)))
  clear hbA hJ hMd hS0 hR0
  obtain ⟨we, hwe⟩ : ∃ we, wkE ns is xs bs hs st L = we := ⟨_, rfl⟩
  have HBT : Hid (badT ns is xs bs hs st L = (decide (we = 0) && heldN ns xs bs hs L (beginI ns is 0 st) L.length && lastN ns xs bs hs L (beginI ns is 0 st) L.length)) := by unfold Hid badT; rw [hwe]
  rw [hwe] at HW ⊢
  generalize badT ns is xs bs hs st L = bt at *
  go_enter Tryz.func7, Tryz.ntmps7
  go_wp2_with fail
  refine HW.out.mono ?_
  rintro e w1 ⟨rfl, hj, hb1⟩
  have HB1 := hide hb1
  clear hb1 HW
  by_cases hw0 : we = 0
  · subst hw0
    obtain ⟨hj1, hj2⟩ := hj rfl
    clear hj hwe
    have hbt := HBT.out
    generalize heldN ns xs bs hs L (beginI ns is 0 st) L.length = x1 at *
    generalize lastN ns xs bs hs L (beginI ns is 0 st) L.length = x2 at *
    have d0 : w1.cell? ⟨w.heap.size + 1 + 1, 0, none⟩ = some (.bool x1) := by rw [Lib.cell_of_heap hj1]; rfl
    have d1 : w1.cell? ⟨w.heap.size + 1 + 1 + 1, 0, none⟩ = some (.bool x2) := by rw [Lib.cell_of_heap hj2]; rfl
    clear hj1 hj2 HBT
    cases x1
    · have hb0 : bt = false := by rw [hbt]; rfl
      subst hb0
      clear hbt
      go_wp2
      go_ret2
      exact ⟨rfl, HB1.out⟩
    · have hb0 : bt = x2 := by rw [hbt]; rfl
      subst hb0
      clear hbt
      go_wp2
      go_ret2
      exact ⟨rfl, HB1.out⟩
  · have hb0 : bt = false := by rw [HBT.out, decide_eq_false hw0]; rfl
    have hwb : (we == 0) = false := beq_eq_false_iff_ne.2 hw0
    subst hb0
    clear HBT hj hwe hw0
    go_wp2
    go_ret2
    exact ⟨rfl, HB1.out⟩
end Go.Proofs.YtfobcnhibhbbaaaGreatDoor.Ev.Xp

namespace Go.Proofs.YtfobcnhibhbbaaaGreatDoor.Ev.Xp
open Go.RowKit
set_option maxRecDepth 100000

def isSl (v : Value) : Prop := ∃ p n c, v = .slice p n c
/-- A list of lists that grows: n of them, the last of which is x. -/
def Pw (w : World) (base : Nat) (v : Value) (n : Nat) (x : Value) : Prop :=
  (v = .slice none 0 0 ∧ n = 0) ∨ ∃ (g cap : Nat) (cur : Array Value), v = .slice (some ⟨g, 0, none⟩) n cap ∧ base ≤ g ∧ w.heap[g]? = some (.cells cur 24 (0, 0)) ∧ 0 < n ∧ n ≤ cap ∧ cap = cur.size ∧ (∀ u ∈ cur.toList, isSl u) ∧ cur[n - 1]? = some x
theorem Pw.later {w w' : World} {base : Nat} {v : Value} {n : Nat} {x : Value} (h : Pw w base v n x) (hb : Below w.heap.size w w') : Pw w' base v n x := by
  rcases h with h | ⟨g, cap, cur, h1, h2, h3, h4⟩
  · exact .inl h
  · exact .inr ⟨g, cap, cur, h1, h2, (hb.block _ (Array.getElem?_eq_some_iff.1 h3).1).trans h3, h4⟩
theorem zeros_sl (K : Nat) : ∀ u ∈ (Builtin.zeroCells (Value.cells (.slice none 0 0)) K).toList, isSl u := by
  intro u hu
  unfold Builtin.zeroCells at hu
  simp only [Array.toList_map, List.mem_map] at hu
  obtain ⟨i, _, rfl⟩ := hu
  have e : (Value.cells (.slice none 0 0)) = #[.slice none 0 0] := rfl
  rw [e]
  refine ⟨none, 0, 0, ?_⟩
  have : i % (#[Value.slice none 0 0] : Array Value).size = 0 := Nat.mod_one i
  rw [this]
  rfl
/-- One more is laid behind them. -/
theorem pw_append {w : World} {base : Nat} {v : Value} {n : Nat} {x : Value} (h : Pw w base v n x) (hb : base ≤ w.heap.size) (hn : n ≤ 1000) (p : Option Addr) (m c : Nat) (ty : TypeId) :
    ∃ v' w', (Builtin.append_ #[27, 27] ty #[v, .slice (some ⟨w.heap.size, 0, none⟩) 1 1]).run Tryz.prog (w.alloc (.cells #[.slice p m c] 24)) = .ok v' w' ∧ Pw w' base v' (n + 1) (.slice p m c) ∧ Below base w w' ∧ (∀ (g : Nat) (cs : Array Value) (T : TypeId) (fr : Nat × Nat), w.heap[g]? = some (.cells cs T fr) → T ≠ 24 → w'.heap[g]? = w.heap[g]?) ∧ (∀ a k, w.cell? a = some (.int .i64 k) → w'.cell? a = some (.int .i64 k)) := by
  obtain ⟨i0, hi, hz0, hz1, hz2⟩ := info_parts info24
  have hal : Below w.heap.size w (w.alloc (.cells #[.slice p m c] 24)) := bal (Below.refl _ _) _
  have hnew := one_new (.slice p m c) w 24
  have hsz : (w.alloc (.cells #[.slice p m c] 24)).heap.size = w.heap.size + 1 := by simp
  have hone : ∀ u ∈ ([.slice p m c] : List Value), u.oneCell' = true := fun u hu => by simp at hu; subst hu; rfl
  have far : ∀ W : World, Below w.heap.size w W → Below base w W ∧ (∀ (g : Nat) (cs : Array Value) (T : TypeId) (fr : Nat × Nat), w.heap[g]? = some (.cells cs T fr) → T ≠ 24 → W.heap[g]? = w.heap[g]?) ∧ (∀ a k, w.cell? a = some (.int .i64 k) → W.cell? a = some (.int .i64 k)) := fun W hW =>
    ⟨hW.mono hb, fun g cs T fr hg _ => hW.block g (Array.getElem?_eq_some_iff.1 hg).1, fun a k ha => cell_later hW ha⟩
  have grown : ∀ (l : List Value) (K : Nat), l.length = n → (∀ u ∈ l, isSl u) → n + 1 ≤ K → Pw ((w.alloc (.cells #[.slice p m c] 24)).drew.alloc (.cells (l.toArray ++ [.slice p m c].toArray ++ Builtin.zeroCells (Value.cells (.slice none 0 0)) (K - (n + 1))) 24)) base (.slice (some ⟨(w.alloc (.cells #[.slice p m c] 24)).heap.size, 0, none⟩) (n + 1) K) (n + 1) (.slice p m c) ∧ Below w.heap.size w ((w.alloc (.cells #[.slice p m c] 24)).drew.alloc (.cells (l.toArray ++ [.slice p m c].toArray ++ Builtin.zeroCells (Value.cells (.slice none 0 0)) (K - (n + 1))) 24)) := by
    intro l K hl hs hK
    refine ⟨.inr ⟨_, K, _, rfl, by rw [hsz]; omega, heap_alloc_new (w.alloc (.cells #[.slice p m c] 24)).drew _, by omega, hK, ?_, ?_, ?_⟩, bal hal.drew _⟩
    · simp only [Array.size_append, List.size_toArray, size_zeroCells, hl, List.length_cons, List.length_nil]
      have : (Value.cells (.slice none 0 0)).size = 1 := rfl
      rw [this]
      omega
    · intro u hu
      simp only [Array.toList_append, List.mem_append] at hu
      rcases hu with (hu | hu) | hu
      · exact hs u hu
      · simp at hu; subst hu; exact ⟨_, _, _, rfl⟩
      · exact zeros_sl _ u hu
    · rw [Nat.add_sub_cancel, Array.append_assoc, Array.getElem?_append_right (by simp [hl]), Array.getElem?_append_left (by simp [hl])]
      simp [hl]
  rcases h with ⟨rfl, rfl⟩ | ⟨g, cap, cur, rfl, hg0, hg, h0, hnc, hcap, hsl, hlast⟩
  · have hr := run_append_nil (P := Tryz.prog) (w.alloc (.cells #[.slice p m c] 24)) 27 ty 24 i0 (.slice none 0 0) Tryz.underlying27 hi hz0 ⟨w.heap.size, 0, none⟩ 1 1 [.slice p m c] (by rw [hz1]; rfl) hnew (by decide) (by decide) (by rw [hz2]; decide)
    obtain ⟨a1, a2⟩ := grown [] (grownCap (w.alloc (.cells #[.slice p m c] 24)) 1 0 24) rfl (fun u hu => by cases hu) (grownCap_ge _ _ _ _)
    have e : ([] : List Value).toArray ++ [Value.slice p m c].toArray = [Value.slice p m c].toArray := by simp
    rw [e] at a1 a2
    exact ⟨_, _, hr, a1, far _ a2⟩
  · have hbA : (w.alloc (.cells #[.slice p m c] 24)).heap[g]? = some (.cells cur 24 (0, 0)) := (hal.block g (Array.getElem?_eq_some_iff.1 hg).1).trans hg
    by_cases hroom : n + 1 ≤ cap
    · have hr := run_append_room (P := Tryz.prog) (w.alloc (.cells #[.slice p m c] 24)) 27 ty 24 i0 Tryz.underlying27 hi g n cap cur hbA ⟨w.heap.size, 0, none⟩ 1 1 [.slice p m c] (by rw [hz1]; rfl) hnew hone hroom (by rw [hz1, Nat.mul_one, ← hcap]; exact hroom)
      rw [hz1, Nat.mul_one] at hr
      have hother : ∀ k, k ≠ g → ((w.alloc (.cells #[Value.slice p m c] 24)).setRow g (cur.toList.take n ++ [Value.slice p m c] ++ cur.toList.drop (n + 1)).toArray).heap[k]? = (w.alloc (.cells #[Value.slice p m c] 24)).heap[k]? := fun k hk => setRow_other _ g k _ hk
      have hself := setRow_heap (w.alloc (.cells #[Value.slice p m c] 24)) g cur (cur.toList.take n ++ [Value.slice p m c] ++ cur.toList.drop (n + 1)).toArray 24 (0, 0) hbA
      refine ⟨_, _, hr, .inr ⟨g, cap, _, rfl, hg0, hself, by omega, hroom, ?_, ?_, ?_⟩, ⟨hal.os, hal.tape, hal.output, ?_, fun k hk => ?_⟩, fun k cs T fr hk hT => ?_, fun a k ha => ?_⟩
      · simp only [List.size_toArray, List.length_append, List.length_take, List.length_drop, Array.length_toList, List.length_cons, List.length_nil]
        omega
      · intro u hu
        simp only [List.mem_append] at hu
        rcases hu with (hu | hu) | hu
        · exact hsl u (List.mem_of_mem_take hu)
        · simp at hu; subst hu; exact ⟨_, _, _, rfl⟩
        · exact hsl u (List.mem_of_mem_drop hu)
      · rw [Nat.add_sub_cancel, List.getElem?_toArray, List.append_assoc, List.getElem?_append_right (by simp; omega)]
        have : n - (List.take n cur.toList).length = 0 := by simp; omega
        rw [this]
        rfl
      · simp [World.setRow]
      · have : k < w.heap.size := by omega
        exact (hother k (by omega)).trans (hal.block k this)
      · have hne : k ≠ g := by
          rintro rfl
          rw [hg] at hk
          cases hk
          exact hT rfl
        exact (hother k hne).trans (hal.block k (Array.getElem?_eq_some_iff.1 hk).1)
      · have hne : a.block ≠ g := by
          intro e
          obtain ⟨b, o, s⟩ := a
          have hs0 : s = none := World.cell?_spot ha
          subst hs0
          simp only at e
          subst e
          rw [Lib.cell_of_heap hg] at ha
          have hm : Value.int .i64 k ∈ cur.toList := by
            rw [← Array.getElem?_toList] at ha
            exact List.mem_of_getElem? ha
          obtain ⟨_, _, _, e⟩ := hsl _ hm
          cases e
        exact (World.cell?_of_block (w := w) ((hother _ hne).trans (hal.block _ (World.block_lt_of_cell? _ _ ha)))).trans ha
    · have hl : (cur.toList.take n).length = n := by simp; omega
      have hr := run_append_grow (P := Tryz.prog) (w.alloc (.cells #[.slice p m c] 24)) 27 ty 24 i0 (.slice none 0 0) Tryz.underlying27 hi hz0 ⟨g, 0, none⟩ n cap (cur.toList.take n) (by rw [hz1, hl]; omega) (fun j u hj => by
        obtain ⟨hjl, hju⟩ := List.getElem?_eq_some_iff.1 hj
        rw [Addr.add_lit, Nat.zero_add, Lib.cell_of_heap hbA, ← Array.getElem?_toList, ← hj, List.getElem?_take, if_pos (by omega)]) ⟨w.heap.size, 0, none⟩ 1 1 [.slice p m c] (by rw [hz1]; rfl) hnew (by omega) (by omega) (growslice_fits (by omega) (by rw [hz2]; omega))
      obtain ⟨a1, a2⟩ := grown (cur.toList.take n) (grownCap (w.alloc (.cells #[.slice p m c] 24)) (n + 1) cap 24) hl (fun u hu => hsl u (List.mem_of_mem_take hu)) (grownCap_ge _ _ _ _)
      exact ⟨_, _, hr, a1, far _ a2⟩
end Go.Proofs.YtfobcnhibhbbaaaGreatDoor.Ev.Xp
