/- A state is left by all its moves: the walk. -/
import Derived.Test.YtfobcnhibhbbaaaGreatDoorYu
import Derived.Deep.CutRange
import Derived.Deep.DeepCutAuto
namespace Go.Proofs.YtfobcnhibhbbaaaGreatDoor.Ev.Xp
open Go.RowKit Go.Maps Go.WideMaps Go.WideShapes Go.Shelf
set_option maxRecDepth 100000
attribute [local go_sem] Oper.semAt_some

theorem look47p {w : World} {S nM n : Nat} {m : List (Sg × Nat)} {D : DataW Unit} (h1 : w.ownsMap Tryz.prog 59 (plainElem Tryz.prog 3) S nM D) (h2 : MtIs n m D) (hn : n ≤ 10) {s : Sg} (hs : Fits n s) {k : Nat} (hk : (s, k) ∈ m) :
    (Instr.lookup 49 (.map (some S)) (plV (pad s)) false).run Tryz.prog w = .ok (.int .i64 k) w := by
  obtain ⟨c, h3, h4, _⟩ := World.ownsMap.lookup_int h1 lawP Tryz.underlying49 Tryz.underlying3 (zero3 _) (keyP (pad_len (by rw [hs.1]; exact hn)) (pad_wf hs.2))
  rw [h2.at' s k hk] at h4
  rw [h3, lit_inj h4]
/-- What leave leaves. -/
def LvOut (w : World) (X : Nat → Prop) (B S nM : Nat) (v0 v1 v2 v3 v4 : Value) (n : Nat) (m : List (Sg × Nat)) (bad : Option Nat) (k q : Nat) (l : List (Bool × Bool × Sg)) (w' : World) : Prop :=
  ∃ X' va' rows', Ex w' X' B S (nM + l.length) v0 v1 v2 v3 v4 va' n (allM k m l) rows' (foundE (allM k m l) (allB k bad l)) ∧ Fz X w w' X' ∧ rows'.map Rw.ns = ((allM k m l).map (·.1)).drop q ∧ ∀ r ∈ rows', r.ns.length ≤ r.cap ∧ r.cap ≤ maxLen
theorem old_cell {w wP : World} {v : Value} {T : TypeId} (hb : Below (w.drew.alloc (.cells #[v] T)).heap.size (w.drew.alloc (.cells #[v] T)) wP) : wP.cell? ⟨w.heap.size, 0, none⟩ = some v := by
  refine cell_later hb ?_
  have e := Lib.cell_of_heap ((MapKept.heap_alloc w.drew (.cells #[v] T)).1) 0
  exact e
theorem old_frozen {w wP : World} {v : Value} {T : TypeId} (hb : Below (w.drew.alloc (.cells #[v] T)).heap.size (w.drew.alloc (.cells #[v] T)) wP) : wP.frozen? ⟨w.heap.size, 0, none⟩ = false := by
  have hblk := hb.block w.drew.heap.size (by simp)
  rw [(MapKept.heap_alloc w.drew (.cells #[v] T)).1] at hblk
  exact Lib.frozen_of_heap hblk 0
theorem cell_new1 (w : World) (v : Value) (T : TypeId) : (w.alloc (.cells #[v] T)).cell? ⟨w.heap.size, 0, none⟩ = some v := by
  have e := Lib.cell_of_heap ((MapKept.heap_alloc w (.cells #[v] T)).1) 0
  exact e
theorem check_bits {ns : List Nd} {is xs : List (Int × Int)} {bs hs : List Int} (h : checkE ns is xs bs hs = 0) : sumW ns (sel (isK ns 2) ns.length) ≤ 6 ∧ sumW ns (sel (isK ns 3) ns.length) ≤ 10 ∧ cntK ns 2 ≤ 64 ∧ cntK ns 3 ≤ 1024 := by
  have hW := (nodes_ok (check_zero h).2.1).1
  have h0 := h
  unfold checkE at h
  by_cases h1 : 80 < ns.length ∨ 8 < bs.length ∨ 8 < hs.length
  · rw [if_pos h1] at h; omega
  rw [if_neg h1, if_neg (by simp [(check_zero h0).2.1])] at h
  by_cases h3 : 6 < sumW ns (sel (isK ns 2) ns.length) ∨ 10 < sumW ns (sel (isK ns 3) ns.length)
  · rw [if_pos h3] at h; omega
  have e2 := allL_sum ns hW (sel (isK ns 2) ns.length)
  have e3 := allL_sum ns hW (sel (isK ns 3) ns.length)
  have c2 := cntK_int ns 2
  have c3 := cntK_int ns 3
  unfold wsK at c2 c3
  rw [e2.2] at c2
  rw [e3.2] at c3
  have t2 := two_le (sumW ns (sel (isK ns 2) ns.length)).toNat 6 (by omega)
  have t3 := two_le (sumW ns (sel (isK ns 3) ns.length)).toNat 10 (by omega)
  rw [Int.toNat_of_nonneg e2.1] at t2
  rw [Int.toNat_of_nonneg e3.1] at t3
  rw [show two ((6 : Nat) : Int) = 64 from rfl] at t2
  rw [show two ((10 : Nat) : Int) = 1024 from rfl] at t3
  exact ⟨by omega, by omega, by omega, by omega⟩
theorem cnt_two {ns : List Nd} (hW : Wok ns) (kind : Int) : (cntK ns kind : Int) = two (sumW ns (sel (isK ns kind) ns.length)) := by
  rw [cntK_int]
  exact (allL_sum ns hW _).2
theorem Kq.put {n0 : Nat} {X : Nat → Prop} {W : World} {l : Nat} {o : Obj} (h : n0 ≤ l) : Kq n0 X W (W.putObj l o) :=
  ⟨(grownBy_putObj' W l o).size, fun g hg _ => World.putObj_heap_other (by omega)⟩
theorem Mq.put {n0 : Nat} {x : Rw} {W : World} {l : Nat} {o o' : Obj} (ho : W.heap[l]? = some o) (hc : o.isCells = false) (h : Mq n0 x W) : Mq n0 x (W.putObj l o') := by
  refine ⟨ints_same h.1 fun a h0 e => World.putObj_heap_other fun e2 => ?_, h.2⟩
  obtain ⟨b, off, e3, hcc⟩ := h.1 h0
  rw [e] at e3
  injection e3 with e3
  subst e3
  have hq := hcc 0 h0
  simp only at e2
  subst e2
  unfold World.cell? at hq
  simp only [ho] at hq
  cases o <;> simp_all [Obj.isCells]
section
variable {w : World} {X : Nat → Prop} {B S nM : Nat} {v0 v1 v2 v3 v4 : Value} {n : Nat} {m : List (Sg × Nat)} {bad : Option Nat} {k q : Nat}
theorem LvOut.own {L : Nat → List (Bool × Bool × Sg)} (hS : S < w.heap.size) : OwnFrom w.heap.size (fun j W => LvOut w X B S nM v0 v1 v2 v3 v4 n m bad k q (L j) W) := fun j U V row hI hg hr => by
  obtain ⟨X1, va1, rows1, h1, h2, h3⟩ := hI
  exact ⟨X1, va1, rows1, h1.grown hg hr hS, h2.grown hg fun r e => (hr r e).1, h3⟩
theorem LvOut.zero {va : Value} {rows : List Rw} {l : List (Bool × Bool × Sg)} (h : Ex w X B S nM v0 v1 v2 v3 v4 va n m rows (foundE m bad)) (hr : rows.map Rw.ns = (m.map (·.1)).drop q) (hc : ∀ r ∈ rows, r.ns.length ≤ r.cap ∧ r.cap ≤ maxLen) : LvOut w X B S nM v0 v1 v2 v3 v4 n m bad k q (l.take 0) w := by
  refine ⟨X, va, rows, ?_, Fz.refl _ _, ?_, hc⟩
  · simpa [allM, allB] using h
  · simpa [allM] using hr
theorem LvOut.from {w0 W : World} {l : List (Bool × Bool × Sg)} (h : LvOut w X B S nM v0 v1 v2 v3 v4 n m bad k q l W) (hb : Below w0.heap.size w0 w) : LvOut w0 X B S nM v0 v1 v2 v3 v4 n m bad k q l W := by
  obtain ⟨X1, va1, rows1, h1, h2, h3⟩ := h
  exact ⟨X1, va1, rows1, h1, (Fz.quiet hb).trans h2, h3⟩
end
theorem mv_at {ns : List Nd} {xs : List (Int × Int)} {bs hs : List Int} {s : Sg} {j : Nat} (h : j < (mvL ns xs bs hs s).length) : (mvL ns xs bs hs s)[j] = mvOf ns xs bs hs s (wrdK ns 2 j) := by
  simp [mvL]
theorem Ex.bad {w : World} {X : Nat → Prop} {B S nM : Nat} {v0 v1 v2 v3 v4 va : Value} {n : Nat} {m : List (Sg × Nat)} {rows : List Rw} (h : Ex w X B S nM v0 v1 v2 v3 v4 va n m rows (foundE m none)) (k : Nat) :
    Ex ((w.setCell ⟨B, 9, none⟩ (.bool true)).setCell ⟨B, 10, none⟩ (.int .i64 k)) X B S nM v0 v1 v2 v3 v4 va n m rows (foundE m (some k)) := by
  have hs' : ∀ g, g ≠ B → ((w.setCell ⟨B, 9, none⟩ (.bool true)).setCell ⟨B, 10, none⟩ (.int .i64 k)).heap[g]? = w.heap[g]? := fun g hg => (Below.heap_setCell _ _ _ _ hg).trans (Below.heap_setCell _ _ _ _ hg)
  refine ⟨?_, ?_, h.ah.same (fun _ e => e) (fun g hg => hs' g fun e => ?_), fun r hr => ⟨ints_same (h.rin r hr).1 fun a h0 e => hs' a.block fun e2 => (h.rin r hr).2 a h0 e (e2 ▸ h.xe), (h.rin r hr).2⟩, h.ft, h.n10, h.xe, h.xs, fun g hg => by simpa using h.xb g hg⟩
  · rw [heap_setCell_same _ _ _ _ _ _ (heap_setCell_same _ _ _ _ _ _ h.bd)]; rfl
  · obtain ⟨D, h1, h2⟩ := h.mt
    exact ⟨D, map_same h1 (hs' S h.ne), h2⟩
  · obtain ⟨_, cur, h2⟩ := ah_block h.ah hg
    rw [e, h.bd] at h2
    simp at h2
set_option maxHeartbeats 4000000 in
theorem leave_any (a0 a1 a2 a3 a4 : Option Addr) (c0 c1 c2 c3 c4 : Nat) (ns : List Nd) (is xs : List (Int × Int)) (bs hs : List Int) (hck : checkE ns is xs bs hs = 0) (hlx : xs.length ≤ 8796093022208)
    (w : World) (X : Nat → Prop) (B S nM : Nat) (va : Value) (n : Nat) (m : List (Sg × Nat)) (rows : List Rw) (bad : Option Nat) (q : Nat)
    (h : Ex w X B S nM (.slice a0 ns.length c0) (.slice a1 is.length c1) (.slice a2 xs.length c2) (.slice a3 bs.length c3) (.slice a4 hs.length c4) va n m rows (foundE m bad))
    (hE : Env ⟨a0, c0, a1, is.length, c1, a2, xs.length, c2, a3, bs.length, c3, a4, hs.length, c4⟩ ns is xs bs hs X w)
    (r : Rw) (k : Nat) (hr : wordsE ns 3 r.ns = 0) (hin : (r.ns, k) ∈ m) (hI : IntsAt w r.at' r.ns) (hX : ∀ a, 0 < r.ns.length → r.at' = some a → ¬ X a.block) (hcap : r.ns.length ≤ r.cap ∧ r.cap ≤ maxLen) (hn : n = (sel (isK ns 3) ns.length).length)
    (hk : k ≤ 2000) (hm : m.length ≤ 2000) (hnM : nM ≤ 100000000) (hq : q ≤ m.length) (hrows : rows.map Rw.ns = (m.map (·.1)).drop q) (hcaps : ∀ r ∈ rows, r.ns.length ≤ r.cap ∧ r.cap ≤ maxLen) :
    Calls Tryz.prog 32 #[.pointer (some ⟨B, 0, none⟩), r.v] w fun e w' => e = .returned (.tuple #[]) ∧ LvOut w X B S nM (.slice a0 ns.length c0) (.slice a1 is.length c1) (.slice a2 xs.length c2) (.slice a3 bs.length c3) (.slice a4 hs.length c4) n m bad k q (mvL ns xs bs hs r.ns) w' := by
  obtain ⟨p, s, cap⟩ := r
  simp only at hr hin hI hX hcap
  have hW := (nodes_ok (check_zero hck).2.1).1
  have hl80 := (check_zero hck).1.1
  have hfit : Fits n s := by rw [hn]; exact words_fits hW hr
  have hs10 : s.length ≤ 10 := by rw [hfit.1]; exact h.n10
  have HPL := hide (fun (W : World) (hb : Below w.heap.size w W) => placeOf_any s hs10 p cap W (hI.later hb))
  have HLK := hide (fun (W : World) (hb : Below w.heap.size w W) => by
    obtain ⟨D, h1, h2⟩ := (h.later hb).mt
    exact look47p h1 h2 h.n10 hfit hin)
  have HXD := hide h
  have HED := hide hE
  have HID := hide hI
  have HXX := hide hX
  have HCK := hide hck
  have HHR := hide hr
  have HROW := hide hrows
  have HCAPS := hide hcaps
  have HIN := hide hin
  have hc5 : w.cell? ⟨B, 5, none⟩ = some (.map (some S)) := by rw [Lib.cell_of_heap h.bd]; rfl
  have HB2 : Hid (Below w.heap.size w ((w.alloc (.cells #[.pointer (some ⟨B, 0, none⟩)] 111)).alloc (.cells #[.slice p s.length cap] 24))) := bal (bal (Below.refl _ _) _) _
  have bx0 : ((w.alloc (.cells #[.pointer (some ⟨B, 0, none⟩)] 111)).alloc (.cells #[.slice p s.length cap] 24)).cell? ⟨w.heap.size, 0, none⟩ = some (.pointer (some ⟨B, 0, none⟩)) := by simp [go_sem]
  have bx1 : ((w.alloc (.cells #[.pointer (some ⟨B, 0, none⟩)] 111)).alloc (.cells #[.slice p s.length cap] 24)).cell? ⟨w.heap.size + 1, 0, none⟩ = some (.slice p s.length cap) := by simp [go_sem]
  have bx2 := cell_later HB2.out hc5
  have HSZ : Hid (((w.alloc (.cells #[.pointer (some ⟨B, 0, none⟩)] 111)).alloc (.cells #[.slice p s.length cap] 24)).heap.size = w.heap.size + 2) := by unfold Hid; simp
  unfold Rw.v
  simp only
  clear h hE hI hX hck hr hrows hcaps hin hc5
  refine (callsIn_wide (n := 3)).1 (callsIn_of_wp_marks Tryz.func32 rfl trivial ?_ rfl)
  simp only [Tryz.ntmps32, List.size_toArray, List.length_cons, List.length_nil, Nat.reduceAdd, Nat.reduceSub, Array.replicate_succ, Array.replicate_zero, List.push_toArray, List.append_toArray, List.nil_append, List.cons_append]
  refine wpIn_wide.2 ?_
  go_upto_region 1 with fail
  generalize (w.alloc (.cells #[.pointer (some ⟨B, 0, none⟩)] 111)).alloc (.cells #[.slice p s.length cap] 24) = w2 at *
  have HBD : Hid (Below w.heap.size w w2.drew) := HB2.out.drew
  have HBA : Hid (Below w.heap.size w (w2.drew.alloc (.cells #[.int .i64 0] 3))) := bal HBD.out _
  go_cut [4] from 9 to 15 (fun s4 wx => ∃ b4, s4 = .pointer (some ⟨b4, 0, none⟩) ∧ Hid (Below w2.heap.size w2 wx ∧ w2.heap.size ≤ b4 ∧ wx.cell? ⟨b4, 0, none⟩ = some (.int .i64 k)))
  case first =>
    go_region_held3 (fun w' => w'.cell? ⟨w.heap.size, 0, none⟩ = some (.pointer (some ⟨B, 0, none⟩)) ∧ w'.cell? ⟨w.heap.size + 1, 0, none⟩ = some (.slice p s.length cap) ∧ w'.cell? ⟨B, 5, none⟩ = some (.map (some S)))
      (refine ⟨cell_later (w := w2.drew) ?_ bx0, cell_later (w := w2.drew) ?_ bx1, cell_later (w := w2.drew) ?_ bx2⟩ <;> (first | exact Below.refl _ _ | exact hbP | exact bal hbP _ | exact bthen (bal (Below.refl _ _) _) hbP | exact Below.setCell (show Below w2.drew.heap.size w2.drew wP from bthen (bal (Below.refl _ w2.drew) (.cells #[.int .i64 0] 3)) hbP) (p := ⟨w2.heap.size, 0, none⟩) (Nat.le_refl w2.heap.size) _ | exact bal (Below.refl _ _) _))
      ((go_at_call 20; refine (HPL.out _ (by first | exact HBD.out | exact HBA.out)).mono ?_; rintro e wP ⟨rfl, hbP⟩; have hlk1 := HLK.out wP (bthen (by first | exact HBD.out | exact HBA.out) hbP); have hlk2 := HLK.out (wP.alloc (.cells #[.int .i64 0] 3)) (bal (bthen (by first | exact HBD.out | exact HBA.out) hbP) _); (try (have hst := old_cell hbP; have hsf := old_frozen hbP))))
    all_goals (go_wp2_with fail; go_meet)
    · exact ⟨_, rfl, bal (show Below w2.heap.size w2 wP from bthen (Below.refl _ w2).drew hbP) _, hbP.size, cell_new1 _ _ _⟩
    · exact ⟨_, rfl, bal (show Below w2.heap.size w2 wP from bthen (Below.refl _ w2).drew hbP) _, hbP.size, cell_new1 _ _ _⟩
    · exact ⟨_, rfl, Below.setCell (show Below w2.heap.size w2 wP from bthen (bal (Below.refl _ w2).drew (.cells #[.int .i64 0] 3)) hbP) (p := ⟨w2.heap.size, 0, none⟩) (Nat.le_refl w2.heap.size) _, Nat.le_refl _, World.cell?_setCell_same' _ _ _ (by rw [hst]; rfl)⟩
  case rest =>
    obtain ⟨b4, rfl, HC⟩ := hcut
    obtain ⟨hbc, hb4, b4c⟩ := HC.out
    have z0 := cell_later hbc bx0
    have z1 := cell_later hbc bx1
    have HBC := hide (bthen HB2.out hbc)
    have HHB := hide hb4
    have HSZ2 := hide (And.intro HSZ.out hbc.size)
    clear HC hbc bx0 bx1 bx2 HBD HBA HPL HLK hb4
    have HX3 := hide (HXD.out.later HBC.out)
    have HE3 := hide (HED.out.go (Fz.quiet HBC.out))
    have m0 : wc.cell? ⟨B, 0, none⟩ = some (.slice a0 ns.length c0) := by rw [Lib.cell_of_heap HX3.out.bd]; rfl
    have m1 : wc.cell? ⟨B, 1, none⟩ = some (.slice a1 is.length c1) := by rw [Lib.cell_of_heap HX3.out.bd]; rfl
    have m2 : wc.cell? ⟨B, 2, none⟩ = some (.slice a2 xs.length c2) := by rw [Lib.cell_of_heap HX3.out.bd]; rfl
    have m3 : wc.cell? ⟨B, 3, none⟩ = some (.slice a3 bs.length c3) := by rw [Lib.cell_of_heap HX3.out.bd]; rfl
    have m4 : wc.cell? ⟨B, 4, none⟩ = some (.slice a4 hs.length c4) := by rw [Lib.cell_of_heap HX3.out.bd]; rfl
    have HAW := hide (allWords_any ⟨a0, c0, a1, is.length, c1, a2, xs.length, c2, a3, bs.length, c3, a4, hs.length, c4⟩ ns hl80 2 wc HE3.out.now.nd)
    go_wp2_with fail
    refine HAW.out.mono ?_
    rintro e w3 ⟨f2, f3, f5, rfl, hA, hb3⟩
    have HA3 := hide hA
    have HB3 := hide hb3
    clear hA hb3 HAW
    go_wp2_with fail
    have HBW : Hid (Below w.heap.size w w3) := bthen HBC.out HB3.out
    have HX4 := hide (HXD.out.later HBW.out)
    have HE4 := hide (HED.out.go (Fz.quiet HBW.out))
    have HXB := hide HXD.out.xb
    have HZ0 := hide (cell_later HB3.out z0)
    have HZ1 := hide (cell_later HB3.out z1)
    have HZ4 := hide (cell_later HB3.out b4c)
    have HNX : Hid (¬ X w.heap.size ∧ ¬ X (w.heap.size + 1) ∧ ¬ X b4) := ⟨fun e => by have := HXB.out _ e; omega, fun e => by have := HXB.out _ e; omega, fun e => by have := HXB.out _ e; have := HHB.out; have := HSZ2.out.1; omega⟩
    have HBT := hide (check_bits HCK.out)
    have HSEQ := hide (words_seq ⟨a0, c0, a1, is.length, c1, a2, xs.length, c2, a3, bs.length, c3, a4, hs.length, c4⟩ ns hl80 hW 2 2 f2 f3 f5 w3 X (fun W hk' => ⟨HA3.out W fun g h1 h2 => hk'.far g h2 fun e => (by have := HXB.out g e; have := HBC.out.size; omega), (HE4.out W hk').nd⟩) (cntK ns 2) (cnt_two hW 2) ⟨(allL_sum ns hW _).1, (by have := HBT.out.1; omega)⟩ (by have := HBT.out.2.2.1; omega))
    clear m0 m1 m2 m3 m4 z0 z1 b4c HA3 HX3 HE3 HSZ HSZ2 HB2
    refine (wpIn_wide (n := 3)).1 ?_
    refine wp_rangeM (F := Fence.wide) (n := 3) rfl (by decide) (gf := 61) (lb := #[.pointer (some ⟨f2, 0, none⟩), .pointer (some ⟨f3, 0, none⟩), .pointer (some ⟨f5, 0, none⟩)]) rfl trivial (enters_of Tryz.func61 (by kernel_rfl) rfl) (M := Mq w3.heap.size) (Kp := Kq w3.heap.size X) (N := cntK ns 2) (vals := fun k => wordsL ((sel (isK ns 2) ns.length).map (wdOf ns)) k) (w0 := w3) HSEQ.out (fun h1 h2 => h1.trans h2) (fun W l o o' hl _ _ _ => Kq.put hl) (Below.refl _ _) (fun x W l o o' _ ho hc hm => Mq.put ho hc hm)
      (fun j W => LvOut w3 X B S nM (.slice a0 ns.length c0) (.slice a1 is.length c1) (.slice a2 xs.length c2) (.slice a3 bs.length c3) (.slice a4 hs.length c4) n m bad k q ((mvL ns xs bs hs s).take j) W) (LvOut.own (Nat.lt_of_lt_of_le (HXB.out _ HX4.out.xs) HBW.out.size)) (LvOut.zero HX4.out HROW.out HCAPS.out)
      (fun x => { tmps := #[.pointer (some ⟨B, 0, none⟩), .slice p s.length cap, .pointer (some ⟨w.heap.size, 0, none⟩), .pointer (some ⟨w.heap.size + 1, 0, none⟩), .pointer (some ⟨b4, 0, none⟩), x.v, undef, undef, undef, u9, u10, u11, u12, u13, u14, u15, .pointer (some ⟨B, 0, none⟩), .pointer (some ⟨B, 0, none⟩), .pointer (some ⟨B, 0, none⟩), .agg #[.slice a0 ns.length c0, .slice a1 is.length c1, .slice a2 xs.length c2, .slice a3 bs.length c3, .slice a4 hs.length c4], .func (.func 61) #[] #[.pointer (some ⟨f2, 0, none⟩), .pointer (some ⟨f3, 0, none⟩), .pointer (some ⟨f5, 0, none⟩)], x.v, undef, undef, undef, undef, undef, undef, undef, undef, undef, undef, undef, undef, undef, undef, undef, undef, undef, undef, undef, undef, undef, undef, undef, undef, undef, undef, undef, undef, undef, undef, undef, undef, undef, undef, undef, undef, undef, undef, undef, undef, undef, undef, undef, undef, undef, undef, undef, undef, undef, undef, undef], defers := [] }) ?assign ?body ?done
    case assign =>
      intro l x W K hK
      gi_wp2
      exact hK
    case body =>
      rintro l j x W ⟨X1, va1, rows1, hEx, hFz, hrw, hcp⟩ hj hx hM
      have y0 := hFz.cell HZ0.out HNX.out.1
      have y1 := hFz.cell HZ1.out HNX.out.2.1
      have y4 := hFz.cell HZ4.out HNX.out.2.2
      have HEX := hide hEx.only
      have HFZ := hide (hFz.less (Y' := onlyC X1 S W) fun g e => e.1)
      have HRW := hide hrw
      have HCP := hide hcp
      have HM := hide hM
      have HHX := hide hx
      have hcell : ∀ i v, (#[.slice a0 ns.length c0, .slice a1 is.length c1, .slice a2 xs.length c2, .slice a3 bs.length c3, .slice a4 hs.length c4] : Array Value)[i]? = some v → W.cell? ⟨B, i, none⟩ = some v := fun i v hi => by
        rw [Lib.cell_of_heap hEx.bd]
        have hi5 : i < 5 := (Array.getElem?_eq_some_iff.1 hi).1
        match i, hi5 with
        | 0, _ => exact hi
        | 1, _ => exact hi
        | 2, _ => exact hi
        | 3, _ => exact hi
        | 4, _ => exact hi
      have m0 := hcell 0 _ rfl
      have m1 := hcell 1 _ rfl
      have m2 := hcell 2 _ rfl
      have m3 := hcell 3 _ rfl
      have m4 := hcell 4 _ rfl
      have HMD := hide (HE4.out.go hFz)
      have HIS : Hid (IntsAt W p s) := ints_same (HID.out.later HBW.out) fun a h0 e => hFz.far a.block (by
        obtain ⟨b, off, e2, hc⟩ := (HID.out.later HBW.out) h0
        rw [e] at e2
        injection e2 with e2
        subst e2
        exact World.block_lt_of_cell? _ _ (hc 0 h0)) (HXX.out a h0 e)
      have HWD : Hid (wordsE ns 2 x.ns = 0) := by rw [HHX.out]; exact wrd_ok ns 2 j
      have HWC := hide (words_any2 ⟨a0, c0, a1, is.length, c1, a2, xs.length, c2, a3, bs.length, c3, a4, hs.length, c4⟩ ns hl80 (check_zero HCK.out).2.1 s x.ns HHR.out HWD.out (.slice p s.length cap) x.v W.drew (HMD.out.now.nd.later (Below.refl _ W).drew) ⟨p, cap, rfl, HIS.out.later (Below.refl _ W).drew, hcap.1, hcap.2⟩ ⟨x.at', x.cap, rfl, HM.out.1.later (Below.refl _ W).drew, HM.out.2.2.1, HM.out.2.2.2⟩)
      have hVl := vals_len ns s x.ns ns.length
      have HMV : Hid (mvOf ns xs bs hs s x.ns = (!hs.any (fun y => (vals ns s x.ns ns.length).getD y.toNat 0 == 0), bs.any (fun y => (vals ns s x.ns ns.length).getD y.toNat 0 == 1), followL ns xs (vals ns s x.ns ns.length))) := rfl
      generalize vals ns s x.ns ns.length = V at *
      have HVL := hide hVl
      clear hEx hFz hrw hcp hM hx hcell hVl
      gi_wp2
      refine reg4 (fun ⟨_, _, h⟩ => h) (fun _ _ _ h => h) _ _ _ _ _ _ _ _ _ _ _ _ _ _ _ _ _ _ _ _ _ _ _ _ _ _ _ _ _ _ _ _ _ _ _ _ _ _ _ _ _ _ _ _ _ _ _ _ _ _ _ _ _ _ _ _ _ _ _ _ _ _ _ _ _ _ _ _ _ _ _ _ _ B ns.length (.slice p s.length cap) a0 a1 a2 a3 a4 ns.length is.length xs.length bs.length hs.length c0 c1 c2 c3 c4 p s.length cap rfl W y0 y1 m0 m1 m2 m3 m4 (fun g w' => IRow w' g V ∧ Below W.drew.heap.size W.drew w') (fun g w' h => h.2) HWC.out ?_
      rintro g wV ⟨hRow, hbV⟩
      have HBV : Hid (Below W.heap.size W wV) := bthen (Below.refl _ W).drew hbV
      have HRV := hide hRow
      have HLK : Hid (Calls Tryz.prog 63 #[.agg #[.slice a0 ns.length c0, .slice a1 is.length c1, .slice a2 xs.length c2, .slice a3 bs.length c3, .slice a4 hs.length c4], .slice (some ⟨g, 0, none⟩) ns.length ns.length] wV fun e w' => e = .returned (.tuple #[.bool (!hs.any (fun y => V.getD y.toNat 0 == 0)), .bool (bs.any (fun y => V.getD y.toNat 0 == 1))]) ∧ Below wV.heap.size wV w') := by
        have hmk := (check_zero HCK.out)
        have hin := marks_in hmk.2.2.2
        have := courseLook_any ⟨a0, c0, a1, is.length, c1, a2, xs.length, c2, a3, bs.length, c3, a4, hs.length, c4⟩ ns.length bs hs (by have := hmk.1.2.1; unfold maxLen; omega) (by have := hmk.1.2.2; unfold maxLen; omega) rfl rfl V (by rw [HVL.out]; exact hl80) (fun y hy => by rw [HVL.out]; exact hin.1 y hy) (fun y hy => by rw [HVL.out]; exact hin.2 y hy) (some ⟨g, 0, none⟩) ns.length wV (HMD.out.now.ib.later HBV.out) (HMD.out.now.ih.later HBV.out) (irow_ints hRow)
        rw [HVL.out] at this
        exact this
      generalize (!hs.any (fun y => V.getD y.toNat 0 == 0)) = hold at *
      generalize (bs.any (fun y => V.getD y.toNat 0 == 1)) = bd at *
      have y0V := cell_later HBV.out y0
      have y4V := cell_later HBV.out y4
      have m0V := cell_later HBV.out m0
      have m1V := cell_later HBV.out m1
      have m2V := cell_later HBV.out m2
      have m3V := cell_later HBV.out m3
      have m4V := cell_later HBV.out m4
      clear y0 y1 y4 m0 m1 m2 m3 m4 hRow hbV HWC
      have HTK : Hid ((mvL ns xs bs hs s).take (j + 1) = (mvL ns xs bs hs s).take j ++ [(hold, bd, followL ns xs V)]) := by
        have hjl : j < (mvL ns xs bs hs s).length := by unfold mvL; simpa using hj
        rw [List.take_succ_eq_append_getElem hjl]
        have e : (mvL ns xs bs hs s)[j] = mvOf ns xs bs hs s x.ns := by
          rw [mv_at, HHX.out]
          rfl
        rw [e, HMV.out]
        rfl
      have HLJ : Hid (((mvL ns xs bs hs s).take j).length = j) := by unfold Hid mvL; simp; omega
      have HML : Hid ((allM k m ((mvL ns xs bs hs s).take j)).length ≤ m.length + 64) := by
        have h1 := allM_len k ((mvL ns xs bs hs s).take j) m
        rw [HLJ.out] at h1
        have h2 := HBT.out.2.2.1
        unfold Hid
        omega
      rw [HLJ.out] at HEX
      have HWW := hide HFZ.out.size
      have HB0 : Hid (w.heap.size < w3.heap.size) := World.block_lt_of_cell? _ _ HZ0.out
      have HB4 : Hid (b4 < w3.heap.size) := World.block_lt_of_cell? _ _ HZ4.out
      have HSS : Hid (S < w3.heap.size) := Nat.lt_of_lt_of_le (HXB.out _ HX4.out.xs) HBW.out.size
      have HNB : Hid (w.heap.size ≠ B ∧ b4 ≠ B) := ⟨fun e => HNX.out.1 (e ▸ HXD.out.xe), fun e => HNX.out.2.2 (e ▸ HXD.out.xe)⟩
      have HFIN : Hid (∀ (W' : World) (M' : List (Sg × Nat)) (bad' : Option Nat), LvStep W (onlyC X1 S W) B S (nM + j + 1) (.slice a0 ns.length c0) (.slice a1 is.length c1) (.slice a2 xs.length c2) (.slice a3 bs.length c3) (.slice a4 hs.length c4) n M' bad' q W' → M' = takeM k (allM k m ((mvL ns xs bs hs s).take j)) (hold, bd, followL ns xs V) → bad' = takeB k (allB k bad ((mvL ns xs bs hs s).take j)) (hold, bd, followL ns xs V) → KeepsFrom w3.heap.size W W' ∧ Kq w3.heap.size X W W' ∧ LvOut w3 X B S nM (.slice a0 ns.length c0) (.slice a1 is.length c1) (.slice a2 xs.length c2) (.slice a3 bs.length c3) (.slice a4 hs.length c4) n m bad k q ((mvL ns xs bs hs s).take (j + 1)) W') := by
        rintro W' M' bad' ⟨X2, va2, rows2, hx, hz, hr2, hc2⟩ rfl rfl
        refine ⟨hz.keeps HSS.out, Fz.kq2 HFZ.out hz, X2, va2, rows2, ?_, HFZ.out.trans hz, ?_, hc2⟩
        · rw [HTK.out, List.length_append, HLJ.out, allM_snoc, allB_snoc]
          exact hx
        · rw [HTK.out, allM_snoc]
          exact hr2
      gi_wp2
      refine ⟨trivial, (CallsIn.inRound l (callsIn_wide.2 HLK.out)).mono ?_⟩
      rintro e wL ⟨rfl, hbL⟩
      have HBL : Hid (Below W.heap.size W wL) := bthen HBV.out hbL
      have HEL := hide (HEX.out.later HBL.out)
      have HRL := hide (HRV.out.later hbL)
      have HML2 := hide (HMD.out.now.later HBL.out)
      have y0 := cell_later hbL y0V
      have y4 := cell_later hbL y4V
      have HFL : Hid (Fz (onlyC X1 S W) W wL (onlyC X1 S W)) := Fz.quiet HBL.out
      clear HLK hbL y0V y4V m0V m1V m2V m3V m4V HRV
      cases hold
      case false =>
        gi_wp2
        exact HFIN.out wL _ _ ⟨_, va1, rows1, HEL.out.mono (Nat.le_succ _), HFL.out, HRW.out, HCP.out⟩ rfl rfl
      case true =>
        have HFT : Hid (Fits n (followL ns xs V)) := by
          have hmem : (true, bd, followL ns xs V) ∈ mvL ns xs bs hs s := by
            have h1 : (true, bd, followL ns xs V) ∈ (mvL ns xs bs hs s).take (j + 1) := by rw [HTK.out]; simp
            exact List.mem_of_mem_take h1
          have := words_fits hW (mv_words HCK.out HHR.out _ hmem)
          rw [← hn] at this
          exact this
        cases bd
        case false =>
          gi_wp2
          refine lv_tail (fun ⟨_, _, h⟩ => h) (fun _ _ _ h => h) _ _ _ _ _ _ _ _ _ _ _ _ _ _ _ _ _ _ _ _ _ _ _ _ _ _ _ _ _ _ _ _ _ _ _ _ _ _ _ _ _ _ _ _ _ _ _ _ _ _ _ _ _ _ _ _ _ _ _ _ _ _ _ _ _ _ _ _ _ _ a0 a1 a2 a3 a4 c0 c1 c2 c3 c4 ns is xs bs hs HCK.out hlx w.heap.size b4 g B S (nM + j) k q n (onlyC X1 S W) W wL va1 (allM k m ((mvL ns xs bs hs s).take j)) rows1 (allB k bad ((mvL ns xs bs hs s).take j)) V HVL.out HFT.out HEL.out HFL.out HRW.out HCP.out HML2.out HRL.out y0 y4 (fun e => HNX.out.1 (HFZ.out.fro _ HB0.out e)) (fun e => HNX.out.2.2 (HFZ.out.fro _ HB4.out e)) hk (by have := HML.out; omega) (by have := HBT.out.2.2.1; omega) (Nat.le_trans hq (allM_pre _ _ _).length_le) (fun a w' hs' => ?_)
          exact HFIN.out w' _ _ hs' rfl rfl
        case true =>
          obtain ⟨bad1, hbad1⟩ : ∃ bad1, allB k bad ((mvL ns xs bs hs s).take j) = bad1 := ⟨_, rfl⟩
          rw [hbad1] at HEL HFIN
          have q9 : wL.cell? ⟨B, 9, none⟩ = some (.bool (foundE (allM k m ((mvL ns xs bs hs s).take j)) bad1).bad) := by rw [Lib.cell_of_heap HEL.out.bd]; rfl
          have q10 : wL.cell? ⟨B, 10, none⟩ = some (.int .i64 (foundE (allM k m ((mvL ns xs bs hs s).take j)) bad1).bdd) := by rw [Lib.cell_of_heap HEL.out.bd]; rfl
          have r9 : wL.frozen? ⟨B, 9, none⟩ = false := Lib.frozen_of_heap HEL.out.bd 9
          have r10 : wL.frozen? ⟨B, 10, none⟩ = false := Lib.frozen_of_heap HEL.out.bd 10
          cases bad1
          case some kb =>
            have q9' : wL.cell? ⟨B, 9, none⟩ = some (.bool true) := q9
            clear q9 q10
            gi_wp2
            refine lv_tail (fun ⟨_, _, h⟩ => h) (fun _ _ _ h => h) _ _ _ _ _ _ _ _ _ _ _ _ _ _ _ _ _ _ _ _ _ _ _ _ _ _ _ _ _ _ _ _ _ _ _ _ _ _ _ _ _ _ _ _ _ _ _ _ _ _ _ _ _ _ _ _ _ _ _ _ _ _ _ _ _ _ _ _ _ _ a0 a1 a2 a3 a4 c0 c1 c2 c3 c4 ns is xs bs hs HCK.out hlx w.heap.size b4 g B S (nM + j) k q n (onlyC X1 S W) W wL va1 (allM k m ((mvL ns xs bs hs s).take j)) rows1 (some kb) V HVL.out HFT.out HEL.out HFL.out HRW.out HCP.out HML2.out HRL.out y0 y4 (fun e => HNX.out.1 (HFZ.out.fro _ HB0.out e)) (fun e => HNX.out.2.2 (HFZ.out.fro _ HB4.out e)) hk (by have := HML.out; omega) (by have := HBT.out.2.2.1; omega) (Nat.le_trans hq (allM_pre _ _ _).length_le) (fun a w' hs' => ?_)
            exact HFIN.out w' _ _ hs' rfl rfl
          case none =>
            have q9' : wL.cell? ⟨B, 9, none⟩ = some (.bool false) := q9
            clear q9
            have HES := hide ((HEL.out.later (Below.refl _ wL).drew).bad k)
            have HFS : Hid (Fz (onlyC X1 S W) W ((wL.drew.setCell ⟨B, 9, none⟩ (.bool true)).setCell ⟨B, 10, none⟩ (.int .i64 k)) (onlyC X1 S W)) := HFL.out.trans (((Fz.quiet (Below.refl _ wL).drew).trans (Fr.set (q := ⟨B, 9, none⟩) HEL.out.xe _).fz).trans (Fr.set (q := ⟨B, 10, none⟩) HEL.out.xe _).fz)
            have HMS := hide ((HMD.out.less (X' := onlyC X1 S W) fun g e => e.1).go HFS.out)
            have HGB : Hid (0 < V.length → g ≠ B) := fun h0 e => by
              have h1 := (HRL.out 0 h0).1
              rw [e, Lib.cell_of_heap HEL.out.bd] at h1
              simp at h1
            have HRS : Hid (IRow ((wL.drew.setCell ⟨B, 9, none⟩ (.bool true)).setCell ⟨B, 10, none⟩ (.int .i64 k)) g V) := fun i hi => (((HRL.out.later (Below.refl _ wL).drew).other (HGB.out (by omega)) _ _).other (HGB.out (by omega)) _ _) i hi
            gi_wp2
            refine reg8 (fun ⟨_, _, h⟩ => h) (fun _ _ _ h => h) _ _ _ _ _ _ _ _ _ _ _ _ _ _ _ _ _ _ _ _ _ _ _ _ _ _ _ _ _ _ _ _ _ _ _ _ _ _ _ _ _ _ _ _ _ _ _ _ _ _ _ _ _ _ _ _ _ _ _ _ _ _ _ _ _ _ _ _ _ _ _ w.heap.size b4 B k HNB.out.1 HNB.out.2 wL y0 y4 _ _ q9' q10 r9 r10 ?_
            have y0S := (other_cell (i := 10) (u := .int .i64 k) HNB.out.1).trans ((other_cell (w := wL.drew) (i := 9) (u := .bool true) HNB.out.1).trans y0)
            have y4S := (other_cell (i := 10) (u := .int .i64 k) HNB.out.2).trans ((other_cell (w := wL.drew) (i := 9) (u := .bool true) HNB.out.2).trans y4)
            generalize (wL.drew.setCell ⟨B, 9, none⟩ (.bool true)).setCell ⟨B, 10, none⟩ (.int .i64 k) = wS at *
            gi_wp2
            refine lv_tail (fun ⟨_, _, h⟩ => h) (fun _ _ _ h => h) _ _ _ _ _ _ _ _ _ _ _ _ _ _ _ _ _ _ _ _ _ _ _ _ _ _ _ _ _ _ _ _ _ _ _ _ _ _ _ _ _ _ _ _ _ _ _ _ _ _ _ _ _ _ _ _ _ _ _ _ _ _ _ _ _ _ _ _ _ _ a0 a1 a2 a3 a4 c0 c1 c2 c3 c4 ns is xs bs hs HCK.out hlx w.heap.size b4 g B S (nM + j) k q n (onlyC X1 S W) W wS va1 (allM k m ((mvL ns xs bs hs s).take j)) rows1 (some k) V HVL.out HFT.out HES.out HFS.out HRW.out HCP.out HMS.out.now HRS.out y0S y4S (fun e => HNX.out.1 (HFZ.out.fro _ HB0.out e)) (fun e => HNX.out.2.2 (HFZ.out.fro _ HB4.out e)) hk (by have := HML.out; omega) (by have := HBT.out.2.2.1; omega) (Nat.le_trans hq (allM_pre _ _ _).length_le) (fun a w' hs' => ?_)
            exact HFIN.out w' _ _ hs' rfl rfl
    case done =>
      intro D W hD hI hK
      have HI := hide hI
      clear hI
      gi_wp2
      refine ⟨by simp, .inl ⟨_, _, rfl, run_takeDeferred hK, ?_⟩⟩
      refine ⟨_, results_none rfl _ _ _, rfl, ?_⟩
      have hl := LvOut.own (L := fun j => (mvL ns xs bs hs s).take j) (Nat.lt_of_lt_of_le (HXB.out _ HX4.out.xs) HBW.out.size) _ W _ (some D) HI.out (grownBy_putObj' W D (.deferred none)) (fun r e => by cases e; exact ⟨hD, _, hK, rfl⟩)
      simp only at hl
      rw [List.take_of_length_le (by unfold mvL; simp)] at hl
      exact hl.from HBW.out
end Go.Proofs.YtfobcnhibhbbaaaGreatDoor.Ev.Xp
