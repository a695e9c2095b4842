/- A node's line is written. -/
import Derived.Test.YtabnimgpednhjaaDoorJb
import Derived.Test.YtabnimgpednhjaaDoorHhM
import Derived.Deep.RegionHeld3
import Derived.Deep.CutRange
namespace Go.Proofs.YtabnimgpednhjaaDoor
open Go.RowKit
set_option maxRecDepth 100000

def kindL : List (List UInt8) := [[], [99, 111, 110, 115, 116], [105, 110, 112, 117, 116], [115, 116, 97, 116, 101], [110, 111, 116], [110, 101, 103], [97, 110, 100], [111, 114], [120, 111, 114], [97, 100, 100], [115, 117, 98], [109, 117, 108], [100, 105, 118], [114, 101, 109], [115, 104, 108], [115, 104, 114], [101, 113], [108, 101, 115, 115], [115, 105, 103, 110, 101, 100], [105, 102], [106, 111, 105, 110], [99, 117, 116], [119, 105, 100, 101], [115, 112, 114, 101, 97, 100]]
def kindB (k : Nat) : ByteArray := ⟨(kindL.getD k []).toArray⟩
def KW (w : World) : Prop := ∀ k : Nat, k < 24 → w.cell? ⟨0, k, none⟩ = some (.string (kindB k))
theorem KW.later {w w' : World} (h : KW w) (hb : Below w.heap.size w w') : KW w' := fun k hk => cell_later hb (h k hk)
/-- A node's numbers. -/
structure Nd6 where
  k : Nat
  wd : Int
  a : Int
  b : Int
  c : Int
  n : Int
def Nd6.at' (d : Nd6) : Nat → Int
  | 0 => d.k
  | 1 => d.wd
  | 2 => d.a
  | 3 => d.b
  | 4 => d.c
  | _ => d.n
def Nd6.arr (d : Nd6) : Array Value := #[.int .i64 d.k, .int .i64 d.wd, .int .i64 d.a, .int .i64 d.b, .int .i64 d.c, .int .i64 d.n]
def Nd6.ok (d : Nd6) : Prop := ∀ i, -9223372036854775808 ≤ d.at' i ∧ d.at' i ≤ 9223372036854775807
theorem Nd6.cell (d : Nd6) (i : Nat) (h : i ≤ 5) : d.arr[i]? = some (.int .i64 (d.at' i)) := by
  have : i = 0 ∨ i = 1 ∨ i = 2 ∨ i = 3 ∨ i = 4 ∨ i = 5 := by omega
  rcases this with rfl | rfl | rfl | rfl | rfl | rfl <;> rfl
/-- The words of a node's line, so far. -/
def wordsD (num : Int) (d : Nd6) (j : Nat) : List ByteArray := [itoaB num, kindB d.k] ++ (List.range j).map fun i => itoaB (d.at' (offN d.k i))
theorem wordsD_succ (num : Int) (d : Nd6) (j : Nat) : wordsD num d (j + 1) = wordsD num d j ++ [itoaB (d.at' (offN d.k j))] := by
  unfold wordsD
  rw [List.range_succ, List.map_append, List.append_assoc]
  rfl
theorem wordsD_len (num : Int) (d : Nd6) (j : Nat) : (wordsD num d j).length = j + 2 := by
  unfold wordsD
  simp
theorem manyN_bd (k : Int) : 1 ≤ manyN k ∧ manyN k ≤ 5 := by
  have := takes_bd k
  unfold manyN
  split <;> omega
theorem offN_bd (k : Int) (j : Nat) : 1 ≤ offN k j ∧ offN k j ≤ 5 := by
  have := takes_bd k
  unfold offN
  split <;> omega

/-- While a node's words are told. -/
def NodeJ (w0 : World) (nb V : Nat) (num : Int) (d : Nd6) (j : Nat) (wr : World) : Prop :=
  (∃ v, Wm wr w0.heap.size V v (wordsD num d j)) ∧ wr.heap[nb]? = some (.cells d.arr 46 (0, 0)) ∧ Below w0.heap.size w0 wr
theorem nodeJ_later {w0 : World} {nb V : Nat} {num : Int} {d : Nd6} (j : Nat) (w1 w2 : World) (h : NodeJ w0 nb V num d j w1) (hb : Below w1.heap.size w1 w2) : NodeJ w0 nb V num d j w2 := by
  obtain ⟨⟨v, h1⟩, h2, h3⟩ := h
  exact ⟨⟨v, h1.later hb⟩, (hb.block _ (Array.getElem?_eq_some_iff.1 h2).1).trans h2, belowAl h3 hb⟩
theorem enter38 (args : Array Value) (w : World) : (callFunc 24 args).run Tryd.prog w = .ok (.enter 24 args) w := by kernel_rfl
theorem nodeJ_step {w0 : World} {nb V : Nat} {num : Int} {d : Nd6} (hd : d.ok) (ht : Pow w0) (j : Nat) (w1 : World) (hj : j < manyN d.k) (h : NodeJ w0 nb V num d j w1) :
    Calls Tryd.prog 24 #[.pointer (some ⟨nb, offN d.k j, none⟩), .pointer (some ⟨V, 0, none⟩)] w1 fun e w' => e = .returned (.tuple #[]) ∧ NodeJ w0 nb V num d (j + 1) w' ∧ Below w0.heap.size w1 w' := by
  obtain ⟨⟨v, h1⟩, h2, h3⟩ := h
  have ho := offN_bd d.k j
  have hm := manyN_bd d.k
  have hx := hd (offN d.k j)
  refine (node1_any w0.heap.size V nb (offN d.k j) v (wordsD num d j) (by rw [wordsD_len]; omega) (d.at' (offN d.k j)) hx.1 hx.2 w1 h3.size h1 (by rw [Lib.cell_of_heap h2]; exact d.cell _ ho.2) (tab_later ht h3)).mono ?_
  rintro e w' ⟨rfl, ⟨v', k1⟩, k2, k3⟩
  rw [← wordsD_succ] at k1
  refine ⟨rfl, ⟨⟨v', k1⟩, k3 nb _ h2 ?_ ?_, h3.trans k2⟩, k2⟩
  · intro e
    cases e
    have := h1.c
    rw [h2] at this
    cases this
  · intro c fz e
    cases e

theorem nodeJ_start {w0 wx : World} {nb V g : Nat} {num : Int} {d : Nd6} (h1 : wx.heap[V]? = some (.cells #[.slice (some ⟨g, 0, none⟩) 2 2] 54 (0, 0))) (h2 : wx.heap[g]? = some (.cells #[.string (itoaB num), .string (kindB d.k)] 9 (0, 0))) (hg : w0.heap.size ≤ g) (hV : w0.heap.size ≤ V) (h3 : wx.heap[nb]? = some (.cells d.arr 46 (0, 0))) (hb : Below w0.heap.size w0 wx) : NodeJ w0 nb V num d 0 wx :=
  ⟨⟨_, h1, ⟨rfl, .inr ⟨g, 2, _, rfl, hg, h2, Nat.le_refl _, by decide, rfl, rfl⟩⟩, hV⟩, h3, hb⟩
theorem alloc_was {w : World} {o p : Obj} {k : Nat} (h : w.heap[k]? = some p) : (w.alloc o).heap[k]? = some p := (Below.heap_alloc _ _ _ (Array.getElem?_eq_some_iff.1 h).1).trans h
theorem alloc_new1 (w : World) (o p : Obj) : ((w.alloc o).alloc p).heap[w.heap.size + 1]? = some p := by
  have := heap_alloc_new (w.alloc o) p
  rw [World.size_alloc] at this
  exact this
theorem set_far {w : World} {a : Addr} {v u : Value} {B i : Nat} (hne : a.block < B) (h : w.cell? a = some v) : (w.setCell ⟨B, i, none⟩ u).cell? a = some v := by
  rw [World.cell?_setCell_other _ _ _ _ (fun e => by subst e; simp at hne)]
  exact h

set_option maxHeartbeats 8000000 in
theorem writeNode_any (B b : Nat) (l : List UInt8) (num : Int) (hn0 : -9223372036854775808 ≤ num) (hn1 : num ≤ 9223372036854775807) (d : Nd6) (hd : d.ok) (hk : d.k < 24) (w : World) (h : Lib.IsBuilder 44 5 B b (Lib.byteCells l) w) (hKW : KW w) (ht : Pow w) (hBw : B ≤ w.heap.size)
    (hlen : l.length + (lineN (wordsD num d (manyN d.k)) (wordsD num d (manyN d.k)).length).length + 1 ≤ 140737488355328) :
    Calls Tryd.prog 10 #[.pointer (some ⟨b, 0, none⟩), .int .i64 num, .agg d.arr] w fun e w' => e = .returned (.tuple #[]) ∧ (Lib.IsBuilder 44 5 B b (Lib.byteCells (l ++ lineN (wordsD num d (manyN d.k)) (wordsD num d (manyN d.k)).length ++ [10])) w' ∧ Below B w w' ∧ Lib.OthersKept 5 (some b) w w') := by
  have HB := hide h
  have hbA : Below w.heap.size w (w.alloc (.cells d.arr 46)) := bal (Below.refl _ _) _
  have HIT := hide (fun (w' : World) (hb : Below w.heap.size w w') => itoaC num hn0 hn1 w' (tab_later ht hb))
  have hkd : (w.alloc (.cells d.arr 46)).cell? ⟨w.heap.size, 0, none⟩ = some (.int .i64 d.k) := by
    have := heap_alloc_new w (.cells d.arr 46)
    rw [Lib.cell_of_heap this]
    rfl
  have hkw := cell_later hbA (hKW d.k hk)
  have HA0 := hide (heap_alloc_new w (.cells d.arr 46))
  have HBA := hide hbA
  have hki : (d.k : Int) < 24 := by omega
  have hk0 : (0 : Int) ≤ (d.k : Int) := by omega
  have HEA := hide (fun (V : Nat) (w1 : World) (hJ : NodeJ w w.heap.size V num d 0 w1) => each_any 24 (.pointer (some ⟨V, 0, none⟩)) w.heap.size w.heap.size d.k (NodeJ w w.heap.size V num d) w1 hJ nodeJ_later (fun j w2 h2 => ⟨by rw [Lib.cell_of_heap h2.2.1]; exact d.cell 0 (by omega), h2.2.2.size⟩) enter38 (fun j w2 hj h2 => nodeJ_step hd ht j w2 hj h2))
  have HLN := hide hlen
  have HML := hide (manyN_bd d.k)
  clear h hKW ht hd hlen
  generalize hws : wordsD num d (manyN d.k) = ws at *
  have HWS := hide hws
  clear hws
  go_enter Tryd.func10, Tryd.ntmps10
  go_wp2
  generalize w.alloc (.cells d.arr 46) = W at *
  have hbd : Below W.heap.size W W.drew := (Below.refl _ W).drew
  have hlt1 : w.heap.size < W.heap.size := World.block_lt_of_cell? _ _ hkd
  have hlt2 : 0 < W.heap.size := World.block_lt_of_cell? _ _ hkw
  go_cut [6] from 6 to 13 (fun s wx => ∃ V, s = .pointer (some ⟨V, 0, none⟩) ∧ Hid (NodeJ w w.heap.size V num d 0 wx))
  case first =>
    go_region_held3 (fun w' => w'.cell? ⟨w.heap.size, 0, none⟩ = some (.int .i64 d.k) ∧ w'.cell? ⟨0, d.k, none⟩ = some (.string (kindB d.k)))
      (first | exact ⟨hkd, hkw⟩ | exact ⟨past1 hkd _, past1 hkw _⟩ | exact ⟨cell_later hb1 hkd, cell_later hb1 hkw⟩ | exact ⟨cell_later hb1 (past1 hkd _), cell_later hb1 (past1 hkw _)⟩ | exact ⟨past1 (cell_later hb1 hkd) _, past1 (cell_later hb1 hkw) _⟩ | exact ⟨past1 (past1 (cell_later hb1 hkd) _) _, past1 (past1 (cell_later hb1 hkw) _) _⟩ | exact ⟨past1 (cell_later hb1 (past1 hkd _)) _, past1 (cell_later hb1 (past1 hkw _)) _⟩ | exact ⟨past1 (set_far hlt1 (cell_later hb1 (past1 hkd _))) _, past1 (set_far hlt2 (cell_later hb1 (past1 hkw _))) _⟩ | exact ⟨set_far hlt1 (past1 (cell_later hb1 (past1 hkd _)) _), set_far hlt2 (past1 (cell_later hb1 (past1 hkw _)) _)⟩ | go_keep)
      ((go_at_call 22; refine (HIT.out _ (by first | exact belowAl HBA.out hbd | exact bal (belowAl HBA.out hbd) _)).mono ?_; rintro e w1 ⟨rfl, hb1⟩
        first
          | (have gV : w1.heap[W.heap.size]? = some (.cells #[.slice none 0 0] 54 (0, 0)) := (hb1.block _ (by simp)).trans (heap_alloc_new W.drew (.cells #[.slice none 0 0] 54))
             have mV : w1.cell? ⟨W.heap.size, 0, none⟩ = some (.slice none 0 0) := by rw [Lib.cell_of_heap gV]; rfl
             have fV : w1.frozen? ⟨W.heap.size, 0, none⟩ = false := Lib.frozen_of_heap gV 0
             have lV := World.block_lt_of_cell? _ _ mV
             simp only at lV
             have nV := World.new_ne w1 ⟨W.heap.size, 0, none⟩ mV
             simp only at nV
             have GV := hide gV
             clear gV)
          | skip))
    all_goals go_wp2_with fail
    all_goals go_meet
    all_goals (first
      | (have hn1 := (hb1.block _ hlt1).trans HA0.out
         have hbw := belowAl (belowAl HBA.out hbd) hb1
         have hsz := hbw.size
         first
           | exact ⟨_, rfl, nodeJ_start (alloc_new1 _ _ _) (alloc_was (heap_alloc_new _ _)) (by omega) (by omega) (alloc_was (alloc_was hn1)) (bal (bal hbw _) _)⟩
           | exact ⟨_, rfl, nodeJ_start (alloc_was (heap_alloc_new _ _)) (alloc_new1 _ _ _) (by omega) (by omega) (alloc_was (alloc_was hn1)) (bal (bal hbw _) _)⟩)
      | (have hn1 : w1.heap[w.heap.size]? = some (.cells d.arr 46 (0, 0)) := (hb1.block _ (by simp; omega)).trans (alloc_was HA0.out)
         have hbw := belowAl (bal (belowAl HBA.out hbd) _) hb1
         have hsz := hbw.size
         have hv := GV.out
         refine ⟨_, rfl, nodeJ_start (g := w1.heap.size) (alloc_was ?_) ?_ (by omega) (by omega) (alloc_was ?_) (bal (hbw.setCell (by simp; omega) _) _)⟩
         · rw [heap_setCell_same _ _ _ _ _ _ hv]; rfl
         · have := heap_alloc_new (w1.setCell ⟨W.heap.size, 0, none⟩ (.slice (some ⟨w1.heap.size, 0, none⟩) 2 2)) (.cells #[.string (itoaB num), .string (kindB d.k)] 9)
           rw [World.size_setCell] at this
           exact this
         · rw [heap_setCell_other _ _ _ _ (by simp; omega)]; exact hn1))
  case rest =>
    obtain ⟨V, rfl, HJ⟩ := hcut
    have hmf : ∀ (fn : Fn) (first cap : Array Value) (w : World), (Instr.makeFunc fn first cap).run Tryd.prog w = .ok (.func fn first cap) w := fun _ _ _ _ => rfl
    have HE := hide (HEA.out V wc HJ.out)
    clear HEA hkd hkw hbd hlt1 hlt2 HA0 HBA HIT
    go_wp2_with fail
    refine HE.out.mono ?_
    rintro e w2 ⟨rfl, ⟨⟨v, hv⟩, _, hb2⟩, _⟩
    rw [HWS.out] at hv
    obtain ⟨pv, cv, rfl, hst⟩ := strs_of hv.row
    have mV : w2.cell? ⟨V, 0, none⟩ = some (.slice pv ws.length cv) := by rw [Lib.cell_of_heap hv.c]; rfl
    have hwl : ws.length ≤ 1000000 := by rw [← HWS.out, wordsD_len]; have := HML.out; omega
    have HLI := hide (fun (w' : World) (hb : Below w2.heap.size w2 w') => line_any B b l pv cv ws w' (builder_later HB.out (belowAl hb2 hb)) (strs_below hst hb) HLN.out hwl (Nat.le_trans hBw (Nat.le_trans hb2.size hb.size)))
    have hkV : ∀ w3, Lib.OthersKept 5 (some b) w2.drew w3 → w3.cell? ⟨V, 0, none⟩ = some (.slice pv ws.length cv) := fun w3 hk => by
      have h3 : w3.heap[V]? = some (.cells #[.slice pv ws.length cv] 54 (0, 0)) := hk V _ hv.c (fun e => by
        cases e
        exact builder_not (builder_later HB.out hb2) 54 (by decide) _ _ hv.c) (fun c fz e => by cases e)
      rw [Lib.cell_of_heap h3]
      rfl
    have HB2 := hide hb2
    have hbd : Below w2.heap.size w2 w2.drew := (Below.refl _ w2).drew
    clear hv hst hb2 HE HJ hwl
    go_wp2
    go_region_held3 (fun w' => w'.cell? ⟨V, 0, none⟩ = some (.slice pv ws.length cv))
      (first | exact mV | exact hkV _ hk3 | go_keep)
      ((go_at_call 25; refine (HLI.out _ hbd).mono ?_; rintro e w3 ⟨rfl, hu3, hb3, hk3⟩))
    have HV : Hid (Lib.IsBuilder 44 5 B b (Lib.byteCells (l ++ lineN ws ws.length ++ [10])) w3 ∧ Below B w w3 ∧ Lib.OthersKept 5 (some b) w w3) := ⟨hu3, (HB2.out.mono hBw).trans ((hbd.mono (Nat.le_trans hBw HB2.out.size)).trans hb3), (others_of HB2.out (Nat.le_refl _)).trans hk3⟩
    clear hu3 hb3 hk3 HLI mV hkV
    go_wp2
    go_end0
    exact ⟨rfl, HV.out⟩
end Go.Proofs.YtabnimgpednhjaaDoor
