/- An explorer meets a state: the walk. -/
import Derived.Test.YtfobcnhibhbbaaaGreatDoorYgM
import Derived.Deep.RegionLaw
import Derived.Deep.RegionHeld3
import Derived.Deep.QuietTactic
import Derived.BigQuiet
import Derived.Test.YtfobcnhibhbbaaaGreatDoorEaM
import Derived.Test.YtfobcnhibhbbaaaGreatDoorNhM
namespace Go.Proofs.YtfobcnhibhbbaaaGreatDoor.Ev.Xp
open Go.RowKit Go.Maps Go.WideMaps Go.WideShapes
set_option maxRecDepth 100000

/-- An explorer in memory: its block, its map, the states that are still to be left; X: the blocks that are its own. -/
structure Ex (w : World) (X : Nat → Prop) (B S nM : Nat) (v0 v1 v2 v3 v4 va : Value) (n : Nat) (m : List (Sg × Nat)) (rows : List Rw) (f : Fd) : Prop where
  bd : w.heap[B]? = some (.cells #[v0, v1, v2, v3, v4, .map (some S), va, .int .i64 f.r, .int .i64 f.dp, .bool f.bad, .int .i64 f.bdd] 51 (0, 0))
  mt : ∃ D : DataW Unit, w.ownsMap Tryz.prog 59 (plainElem Tryz.prog 3) S nM D ∧ MtIs n m D
  ah : AhAt X w va rows
  rin : ∀ r ∈ rows, IntsAt w r.at' r.ns ∧ ∀ a, 0 < r.ns.length → r.at' = some a → ¬ X a.block
  ft : ∀ x ∈ m, Fits n x.1
  n10 : n ≤ 10
  xe : X B
  xs : X S
  xb : ∀ g, X g → g < w.heap.size
section
variable {w : World} {X : Nat → Prop} {B S nM : Nat} {v0 v1 v2 v3 v4 va : Value} {n : Nat} {m : List (Sg × Nat)} {rows : List Rw} {f : Fd}
theorem Ex.ne (h : Ex w X B S nM v0 v1 v2 v3 v4 va n m rows f) : S ≠ B := by obtain ⟨D, h1, _⟩ := h.mt; exact heap_nmap h1 h.bd
theorem ah_block (h : AhAt X w va rows) {g : Nat} (hg : va.ownBlock = some g) : X g ∧ ∃ cur, w.heap[g]? = some (.cells cur 24 (0, 0)) := by
  rcases h with ⟨rfl, _⟩ | ⟨g', off, cap, cur, rfl, hb, hX, _⟩
  · simp [Value.ownBlock] at hg
  · simp only [Value.ownBlock, Option.some.injEq] at hg
    subst hg
    exact ⟨hX, cur, hb⟩
theorem ints_same {w w1 : World} {p : Option Addr} {l : List Int} (h : IntsAt w p l) (hs : ∀ a, 0 < l.length → p = some a → w1.heap[a.block]? = w.heap[a.block]?) : IntsAt w1 p l := fun h0 => by
  obtain ⟨b, off, e, hc⟩ := h h0
  exact ⟨b, off, e, fun i hi => by rw [World.cell?_of_block (w := w) (a := ⟨b, off + i, none⟩) (hs ⟨b, off, none⟩ h0 e)]; exact hc i hi⟩
theorem Ex.later {w1 : World} (h : Ex w X B S nM v0 v1 v2 v3 v4 va n m rows f) (hb : Below w.heap.size w w1) : Ex w1 X B S nM v0 v1 v2 v3 v4 va n m rows f := by
  refine ⟨(hb.block B (h.xb B h.xe)).trans h.bd, ?_, h.ah.same (fun _ e => e) (fun g hg => hb.block g (h.xb g (ah_block h.ah hg).1)), fun r hr => ⟨(h.rin r hr).1.later hb, (h.rin r hr).2⟩, h.ft, h.n10, h.xe, h.xs, fun g hg => Nat.lt_of_lt_of_le (h.xb g hg) hb.size⟩
  obtain ⟨D, h1, h2⟩ := h.mt
  exact ⟨D, map_same h1 (hb.block S h1.lt), h2⟩
end
theorem zero3 (w : World) : (zeroValue 3).run Tryz.prog w = .ok (.int .i64 0) w := by kernel_rfl
theorem lit_inj {a b : Int} (h : (DataW.lit (.int .i64 a) : DataW Unit) = .lit (.int .i64 b)) : a = b := by simpa using h
theorem look47 {w : World} {S nM n : Nat} {m : List (Sg × Nat)} {D : DataW Unit} (h1 : w.ownsMap Tryz.prog 59 (plainElem Tryz.prog 3) S nM D) (h2 : MtIs n m D) (hn : n ≤ 10) {s : Sg} (hs : Fits n s) :
    ∃ c, (Instr.lookup 49 (.map (some S)) (plV (pad s)) true).run Tryz.prog w = .ok (.tuple #[.int .i64 c, .bool (decide (s ∈ m.map (·.1)))]) w ∧ ∀ k, (s, k) ∈ m → c = k := by
  obtain ⟨v, ps, h3, h4⟩ := World.ownsMap.look_ok h1 lawP Tryz.underlying49 (zero3 _) (plainElem_int Tryz.underlying3 (a := 0) (by decide)) (keyP (pad_len (by rw [hs.1]; exact hn)) (pad_wf hs.2))
  obtain ⟨c, rfl, h5, _⟩ := plainElem_int_inv Tryz.underlying3 h4
  rw [h2.has s hs] at h3
  refine ⟨c, h3, fun k hk => ?_⟩
  have h6 := h2.at' s k hk
  have h7 := congrArg Prod.fst h5
  simp only at h7
  rw [h6] at h7
  exact (lit_inj h7).symm
/-- What meet leaves. -/
def MeOut (w : World) (X : Nat → Prop) (B S nM : Nat) (v0 v1 v2 v3 v4 : Value) (n : Nat) (m : List (Sg × Nat)) (rows : List Rw) (f : Fd) (r : Rw) (k : Nat) (e : Ending) (w' : World) : Prop :=
  e = .returned (.tuple #[]) ∧ ∃ X' va', Ex w' X' B S (nM + 1) v0 v1 v2 v3 v4 va' n (meetE m r.ns k) (if r.ns ∈ m.map (·.1) then rows else rows ++ [r]) (if r.ns ∈ m.map (·.1) then f else { f with r := f.r + 1, dp := k }) ∧ Fr X w w' X'
set_option maxHeartbeats 4000000 in
theorem meet_any (w : World) (X : Nat → Prop) (B S nM : Nat) (v0 v1 v2 v3 v4 va : Value) (n : Nat) (m : List (Sg × Nat)) (rows : List Rw) (f : Fd) (h : Ex w X B S nM v0 v1 v2 v3 v4 va n m rows f) (r : Rw) (hs : Fits n r.ns) (hI : IntsAt w r.at' r.ns) (hX : ∀ a, 0 < r.ns.length → r.at' = some a → ¬ X a.block) (k : Nat) (hk : k ≤ 100000) (hr : rows.length ≤ 100000) (hnM : nM ≤ 1000000000) (hf : 0 ≤ f.r ∧ f.r ≤ 1000000) :
    Calls Tryz.prog 31 #[.pointer (some ⟨B, 0, none⟩), r.v, .int .i64 k] w (MeOut w X B S nM v0 v1 v2 v3 v4 n m rows f r k) := by
  obtain ⟨p, s, cap⟩ := r
  have hs10 : s.length ≤ 10 := by rw [hs.1]; exact h.n10
  have HPL := hide (placeOf_any s hs10 p cap w hI)
  obtain ⟨a0, a1, a2, a3, a4, a5, a6, a7, a8, a9, hp⟩ := ten (pad_len hs10)
  have HP := hide hp
  have H := hide h
  have HS := hide hs
  have HI := hide hI
  have HX := hide hX
  simp only [Rw.v]
  generalize hsl : s.length = sl at *
  clear h hs hI hX hp
  go_enter Tryz.func31, Tryz.ntmps31
  go_wp2_with fail
  refine HPL.out.mono ?_
  rw [HP.out]
  rintro e w1 ⟨rfl, hb1⟩
  have H1 := hide (H.out.later hb1)
  have HF1 : Hid (Fr X w w1 X) := Fr.quiet hb1
  have HI1 := hide (HI.out.later hb1)
  unfold plV
  simp only [List.map_cons, List.map_nil]
  clear hb1 HPL
  go_upto_region 1 with fail
  have hal : Below w1.heap.size w1 (w1.alloc (.cells #[.int .i64 a0, .int .i64 a1, .int .i64 a2, .int .i64 a3, .int .i64 a4, .int .i64 a5, .int .i64 a6, .int .i64 a7, .int .i64 a8, .int .i64 a9] 59)) := bal (Below.refl _ _) _
  have b0 : (w1.alloc (.cells #[.int .i64 a0, .int .i64 a1, .int .i64 a2, .int .i64 a3, .int .i64 a4, .int .i64 a5, .int .i64 a6, .int .i64 a7, .int .i64 a8, .int .i64 a9] 59)).heap[w1.heap.size]? = some (.cells #[.int .i64 a0, .int .i64 a1, .int .i64 a2, .int .i64 a3, .int .i64 a4, .int .i64 a5, .int .i64 a6, .int .i64 a7, .int .i64 a8, .int .i64 a9] 59) := (MapKept.heap_alloc w1 _).1
  have H2 := hide (H1.out.later hal)
  have HF2 : Hid (Fr X w (w1.alloc (.cells #[.int .i64 a0, .int .i64 a1, .int .i64 a2, .int .i64 a3, .int .i64 a4, .int .i64 a5, .int .i64 a6, .int .i64 a7, .int .i64 a8, .int .i64 a9] 59)) X) := HF1.out.trans (Fr.quiet hal)
  have HI2 := hide (HI1.out.later hal)
  have HBX : Hid (¬ X w1.heap.size) := fun e => by have := H1.out.xb _ e; omega
  generalize w1.alloc (.cells #[.int .i64 a0, .int .i64 a1, .int .i64 a2, .int .i64 a3, .int .i64 a4, .int .i64 a5, .int .i64 a6, .int .i64 a7, .int .i64 a8, .int .i64 a9] 59) = w2 at *
  generalize w1.heap.size = bx at *
  have HBOX := hide b0
  have bcell : ∀ j, w2.cell? ⟨bx, j, none⟩ = (#[.int .i64 a0, .int .i64 a1, .int .i64 a2, .int .i64 a3, .int .i64 a4, .int .i64 a5, .int .i64 a6, .int .i64 a7, .int .i64 a8, .int .i64 a9] : Array Value)[j]? := Lib.cell_of_heap b0
  obtain ⟨cs, hcs⟩ : ∃ cs : List Value, cs = [.int .i64 a0, .int .i64 a1, .int .i64 a2, .int .i64 a3, .int .i64 a4, .int .i64 a5, .int .i64 a6, .int .i64 a7, .int .i64 a8, .int .i64 a9] := ⟨_, rfl⟩
  have hu55 : Tryz.prog.underlying 59 = some (.array 10 3) := Tryz.underlying59
  have hi55 : (Tryz.prog.info? 59).map (·.size) = some cs.length := by rw [hcs]; kernel_rfl
  have hra : w2.rangeAt bx 0 cs := fun j v hj => by
    rw [hcs] at hj
    rw [Nat.zero_add, bcell j, ← hj, ← List.getElem?_toArray]
  have c5 : w2.cell? ⟨B, 5, none⟩ = some (.map (some S)) := by rw [Lib.cell_of_heap H2.out.bd]; rfl
  obtain ⟨D, hD, hMt⟩ := H2.out.mt
  obtain ⟨c, hlk, _⟩ := look47 (w := w2.drew) hD.drew hMt H2.out.n10 HS.out
  have hpl : plV (pad s) = .agg cs.toArray := by rw [HP.out, hcs]; rfl
  rw [hpl] at hlk
  have HPV := hide hpl
  clear hpl hcs
  have HD := hide (And.intro hD hMt)
  clear b0 bcell hal hD hMt H1 HF1 HI1
  by_cases hin : s ∈ m.map (·.1)
  · have hd : decide (s ∈ m.map (·.1)) = true := decide_eq_true hin
    rw [hd] at hlk
    have HIN := hide hin
    clear hd hin
    go_region_held3 (fun w' => w'.cell? ⟨B, 5, none⟩ = some (.map (some S)) ∧ w'.rangeAt bx 0 cs) (first | exact ⟨c5, hra⟩ | go_keep) (fail)
    go_wp2_with fail
    refine bodyPost_ret (results_none rfl _ _ _) rfl ?_
    have hE := H2.out.later (Below.refl _ w2).drew
    refine ⟨rfl, X, va, ?_, HF2.out.trans (Fr.quiet (Below.refl _ w2).drew)⟩
    simp only [HIN.out, if_true, meetE]
    exact ⟨hE.bd, by obtain ⟨D, h1, h2⟩ := hE.mt; exact ⟨D, h1.mono (Nat.le_succ _), h2⟩, hE.ah, hE.rin, hE.ft, hE.n10, hE.xe, hE.xs, hE.xb⟩
  · have hd : decide (s ∈ m.map (·.1)) = false := decide_eq_false hin
    rw [hd] at hlk
    have HIN := hide hin
    clear hd hin
    go_region_held3 (fun w' => w'.cell? ⟨B, 5, none⟩ = some (.map (some S)) ∧ w'.rangeAt bx 0 cs) (first | exact ⟨c5, hra⟩ | go_keep) (fail)
    obtain ⟨w3, hrun3, hown3, hg3⟩ := (HD.out.1.drew.drew).update lawP Tryz.underlying49 (show nM < maxLen by unfold maxLen; omega) (keyP (pad_len (by rw [HS.out.1]; exact H2.out.n10)) (pad_wf HS.out.2)) (plainElem_int Tryz.underlying3 (a := (k : Int)) (WalkArith.wf_i64 (by omega)))
    rw [HPV.out] at hrun3
    have hSB := H2.out.ne
    have hSx : Hid (S ≠ bx) := fun e => HBX.out (e ▸ H2.out.xs)
    have d5 : w3.cell? ⟨B, 5, none⟩ = some (.map (some S)) := hg3.cell c5 (by simpa using fun e => hSB e.symm)
    have hra3 : w3.rangeAt bx 0 cs := fun j v hj => hg3.cell (hra j v hj) (by simpa using fun e => hSx.out e.symm)
    go_upto_region 3 with fail
    go_region_held3 (fun w' => w'.cell? ⟨B, 5, none⟩ = some (.map (some S)) ∧ w'.rangeAt bx 0 cs) (first | exact ⟨c5, hra⟩ | exact ⟨d5, hra3⟩ | go_keep) (fail)
    have hbl3 : ∀ g, g < w2.heap.size → g ≠ S → w3.heap[g]? = w2.heap[g]? := fun g hg hne => hg3.block g hg (by simpa using hne)
    have hsz3 : w2.heap.size ≤ w3.heap.size := hg3.size
    have hbd3 := (hbl3 B (H2.out.xb B H2.out.xe) (fun e => hSB e.symm)).trans H2.out.bd
    have hah3 : AhAt X w3 va rows := H2.out.ah.same (fun _ e => e) fun g hg => by
      obtain ⟨h1, cur, h2⟩ := ah_block H2.out.ah hg
      exact hbl3 g (H2.out.xb g h1) fun e => heap_nmap HD.out.1 h2 e.symm
    have hF3 : Fr X w2 w3 X := ⟨hg3.os, hg3.tape, hg3.output, hsz3, fun g hg hx => hbl3 g hg (fun e => hx (e ▸ H2.out.xs)), fun _ e => e, fun _ _ e => e⟩
    have hmt3 : ∃ D : DataW Unit, w3.ownsMap Tryz.prog 59 (plainElem Tryz.prog 3) S (nM + 1) D ∧ MtIs n (m ++ [(s, k)]) D := ⟨_, hown3, HD.out.2.put H2.out.n10 HD.out.1.isMap H2.out.ft HS.out HIN.out k⟩
    have hv : (⟨p, s, cap⟩ : Rw).v = .slice p sl cap := by rw [Rw.v, hsl]
    obtain ⟨va', w4, X4, hrun4, hah4, hF4, ⟨pp, nn, cc, hva⟩, hxb4, hold4, hnew4⟩ := ah_append hah3 (fun g hg => Nat.lt_of_lt_of_le (H2.out.xb g hg) hsz3) ⟨p, s, cap⟩ hr 27
    rw [hv] at hrun4
    have hnB : va.ownBlock ≠ some B := fun e => by
      obtain ⟨_, cur, h2⟩ := ah_block hah3 e
      rw [hbd3] at h2
      simp at h2
    have hnS : va.ownBlock ≠ some S := fun e => by
      obtain ⟨_, cur, h2⟩ := ah_block hah3 e
      obtain ⟨D', h3, _⟩ := hmt3
      exact heap_nmap h3 h2 rfl
    have hB3 : B < w3.heap.size := (Array.getElem?_eq_some_iff.1 hbd3).1
    have hbd4 := (hold4 B hB3 hnB).trans hbd3
    have c6 : w3.cell? ⟨B, 6, none⟩ = some va := by rw [Lib.cell_of_heap hbd3]; rfl
    have g6 : w4.cell? ⟨B, 6, none⟩ = some va := by rw [Lib.cell_of_heap hbd4]; rfl
    have g7 : w4.cell? ⟨B, 7, none⟩ = some (.int .i64 f.r) := by rw [Lib.cell_of_heap hbd4]; rfl
    have g8 : w4.cell? ⟨B, 8, none⟩ = some (.int .i64 f.dp) := by rw [Lib.cell_of_heap hbd4]; rfl
    have f6 : w4.frozen? ⟨B, 6, none⟩ = false := Lib.frozen_of_heap hbd4 6
    have f7 : w4.frozen? ⟨B, 7, none⟩ = false := Lib.frozen_of_heap hbd4 7
    have f8 : w4.frozen? ⟨B, 8, none⟩ = false := Lib.frozen_of_heap hbd4 8
    have HEX : Hid (Ex (((w4.setCell ⟨B, 6, none⟩ va').setCell ⟨B, 7, none⟩ (.int .i64 (f.r + 1))).setCell ⟨B, 8, none⟩ (.int .i64 k)) X4 B S (nM + 1) v0 v1 v2 v3 v4 va' n (m ++ [(s, k)]) (rows ++ [⟨p, s, cap⟩]) { f with r := f.r + 1, dp := k }) := by
      have hs' : ∀ g, g ≠ B → (((w4.setCell ⟨B, 6, none⟩ va').setCell ⟨B, 7, none⟩ (.int .i64 (f.r + 1))).setCell ⟨B, 8, none⟩ (.int .i64 k)).heap[g]? = w4.heap[g]? := fun g hg => (Below.heap_setCell _ _ _ _ hg).trans ((Below.heap_setCell _ _ _ _ hg).trans (Below.heap_setCell _ _ _ _ hg))
      have hszz : (((w4.setCell ⟨B, 6, none⟩ va').setCell ⟨B, 7, none⟩ (.int .i64 (f.r + 1))).setCell ⟨B, 8, none⟩ (.int .i64 k)).heap.size = w4.heap.size := by simp
      refine ⟨?_, ?_, hah4.same (fun _ e => e) (fun g hg => hs' g fun e => ?_), fun r hrm => ?_, fun x hx => ?_, H2.out.n10, hF4.to B H2.out.xe, hF4.to S H2.out.xs, fun g hg => by rw [hszz]; exact hxb4 g hg⟩
      · rw [heap_setCell_same _ _ _ _ _ _ (heap_setCell_same _ _ _ _ _ _ (heap_setCell_same _ _ _ _ _ _ hbd4))]; rfl
      · obtain ⟨D', h1, h2⟩ := hmt3
        exact ⟨D', map_same h1 ((hs' S hSB).trans (hold4 S h1.lt hnS)), h2⟩
      · obtain ⟨_, cur, h2⟩ := ah_block hah4 hg
        rw [e, hbd4] at h2
        simp at h2
      · have hin : IntsAt w2 r.at' r.ns ∧ ∀ a, 0 < r.ns.length → r.at' = some a → ¬ X a.block := by
          rcases List.mem_append.1 hrm with hrm | hrm
          · exact H2.out.rin r hrm
          · obtain rfl : r = ⟨p, s, cap⟩ := by simpa using hrm
            exact ⟨HI2.out, fun a h0 => HX.out a (by simpa [hsl] using h0)⟩
        have hblt : ∀ a, 0 < r.ns.length → r.at' = some a → a.block < w2.heap.size := fun a h0 ha => by
          obtain ⟨b', off', e, hc⟩ := hin.1 h0
          rw [ha] at e
          injection e with e
          subst e
          exact World.block_lt_of_cell? _ _ (hc 0 h0)
        refine ⟨ints_same hin.1 fun a h0 ha => ?_, fun a h0 ha hx => ?_⟩
        · have hxa := hin.2 a h0 ha
          have hla := hblt a h0 ha
          exact (hs' a.block (fun e => hxa (by rw [e]; exact H2.out.xe))).trans ((hold4 a.block (by omega) (fun e => hxa (ah_block hah3 e).1)).trans (hbl3 a.block hla (fun e => hxa (by rw [e]; exact H2.out.xs))))
        · rcases hnew4 _ hx with h1 | h1
          · exact hin.2 a h0 ha h1
          · have := hblt a h0 ha; omega
      · rcases List.mem_append.1 hx with hx | hx
        · exact H2.out.ft x hx
        · obtain rfl : x = (s, k) := by simpa using hx
          exact HS.out
    have HFF : Hid (Fr X w (((w4.setCell ⟨B, 6, none⟩ va').setCell ⟨B, 7, none⟩ (.int .i64 (f.r + 1))).setCell ⟨B, 8, none⟩ (.int .i64 k)) X4) := (((((HF2.out.trans hF3).trans hF4).trans (Fr.set (q := ⟨B, 6, none⟩) (hF4.to B H2.out.xe) _)).trans (Fr.set (q := ⟨B, 7, none⟩) (hF4.to B H2.out.xe) _)).trans (Fr.set (q := ⟨B, 8, none⟩) (hF4.to B H2.out.xe) _))
    obtain ⟨hf1, hf2⟩ := hf
    have hwr : wrap64 (f.r + 1) = f.r + 1 := by unfold wrap64; omega
    subst hva
    clear hbl3 hbd3 hah3 hF3 hmt3 hah4 hF4 hxb4 hold4 hnew4 hnB hnS hbd4 hown3 hg3 hrun3 hra hra3 c5 d5 hlk hv
    go_wp2_with (at_builtin; refine Lib.wpList_append_run _ rfl _ _ _ _ rfl _ _ rfl rfl _ _ hrun4 ?_)
    go_end0
    refine ⟨rfl, X4, .slice (some pp) nn cc, ?_, HFF.out⟩
    simp only [HIN.out, if_false, meetE]
    exact HEX.out
end Go.Proofs.YtfobcnhibhbbaaaGreatDoor.Ev.Xp

namespace Go.Proofs.YtfobcnhibhbbaaaGreatDoor.Ev
open Go.RowKit
set_option maxRecDepth 100000

theorem op_isW {ns : List Nd} {vs : List Int} {t i x : Int} (h : i < t → isW (vs.getD x.toNat 0) (wdOf ns x) = true) : isW (opv vs t i x) (wds ns t i x) = true := by
  unfold opv wds
  by_cases hi : i < t
  · rw [if_pos hi, if_pos hi]; exact h hi
  · rw [if_neg hi, if_neg hi]; decide

theorem opE_fit {ns : List Nd} {i : Nat} {x : Nd} (h : opE ns i x = 0) : fitE x.kind x.width x.n (wds ns (takes x.kind) 0 x.a) (wds ns (takes x.kind) 1 x.b) (wds ns (takes x.kind) 2 x.c) = 0 := by
  unfold opE at h
  split at h
  · omega
  · exact h

theorem opE_in {ns : List Nd} {i : Nat} {x : Nd} (h : opE ns i x = 0) : (0 < takes x.kind → 0 ≤ x.a ∧ x.a < i) ∧ (1 < takes x.kind → 0 ≤ x.b ∧ x.b < i) ∧ (2 < takes x.kind → 0 ≤ x.c ∧ x.c < i) ∧ (takes x.kind < 2 → x.b = 0) ∧ (takes x.kind < 3 → x.c = 0) := by
  unfold opE at h
  by_cases hb : (badOn (takes x.kind) 0 i x.a || badOn (takes x.kind) 1 i x.b || badOn (takes x.kind) 2 i x.c) = true
  · rw [if_pos hb] at h; omega
  · simp only [Bool.or_eq_true, not_or, Bool.not_eq_true] at hb
    obtain ⟨⟨h0, h1⟩, h2⟩ := hb
    refine ⟨fun ht => bad_false h0 ht, fun ht => bad_false h1 ht, fun ht => bad_false h2 ht, fun ht => ?_, fun ht => ?_⟩
    · unfold badOn at h1
      rw [if_neg (by omega)] at h1
      simpa using h1
    · unfold badOn at h2
      rw [if_neg (by omega)] at h2
      simpa using h2

theorem vals_at (ns : List Nd) (sts ins : List Int) {k n : Nat} (h : k < n) : (vals ns sts ins n).getD k 0 = valAt ns sts ins (vals ns sts ins k) k := by
  induction n with
  | zero => omega
  | succ n ih =>
    have hl := vals_len ns sts ins n
    simp only [vals, List.getD, List.getElem?_append]
    rcases Nat.lt_succ_iff_lt_or_eq.1 h with h1 | rfl
    · rw [if_pos (by omega)]
      exact ih h1
    · rw [if_neg (by omega), hl]
      simp

theorem vals_getD (ns : List Nd) (sts ins : List Int) {i k n : Nat} (h : i < k) (hk : k ≤ n) : (vals ns sts ins n).getD i 0 = (vals ns sts ins k).getD i 0 := by
  rw [vals_at ns sts ins (show i < n by omega), vals_at ns sts ins h]

/-- Each node's word is one of its width. -/
theorem vals_isW {ns : List Nd} {sts ins : List Int} (hn : firstN (nodeAtE ns) ns.length = 0) (hs : wordsE ns 3 sts = 0) (hi : wordsE ns 2 ins = 0) :
    ∀ k, k < ns.length → isW (valAt ns sts ins (vals ns sts ins k) k) (wdOf ns k) = true := by
  intro k
  induction k using Nat.strongRecOn with
  | ind k ih =>
    intro hk
    have hnode := firstN_zero.1 hn k hk
    rw [nodeAtE_at hk] at hnode
    obtain ⟨hw, hkd, _, h4, hlf⟩ := node_zero hnode
    have hwd : wdOf ns k = ns[k].width := by unfold wdOf; rw [Int.toNat_natCast, List.getElem?_eq_getElem hk]
    unfold valAt
    rw [List.getElem?_eq_getElem hk]
    simp only
    by_cases k1 : ns[k].kind = 1
    · rw [if_pos k1, hwd]
      have := hlf (by omega)
      unfold leafE at this
      by_cases hW : isW ns[k].n ns[k].width = true
      · exact hW
      · rw [if_pos ⟨k1, (Bool.not_eq_true _).mp hW⟩] at this
        omega
    · rw [if_neg k1]
      by_cases k2 : ns[k].kind = 2
      · rw [if_pos k2]
        exact ((words_zero hi).2 k hk (by rw [isK_at hk, k2]; rfl)).2
      · rw [if_neg k2]
        by_cases k3 : ns[k].kind = 3
        · rw [if_pos k3]
          exact ((words_zero hs).2 k hk (by rw [isK_at hk, k3]; rfl)).2
        · rw [if_neg k3, hwd]
          have hop := h4 (by omega)
          obtain ⟨i0, i1, i2, _, _⟩ := opE_in hop
          have key : ∀ x : Int, 0 ≤ x ∧ x < k → isW ((vals ns sts ins k).getD x.toNat 0) (wdOf ns x) = true := by
            intro x hx
            rw [vals_at ns sts ins (show x.toNat < k by omega)]
            have := ih x.toNat (by omega) (by omega)
            rwa [show ((x.toNat : Nat) : Int) = x by omega] at this
          exact made_isW (opE_fit hop) (op_isW (fun h => key _ (i0 h))) (op_isW (fun h => key _ (i1 h))) (op_isW (fun h => key _ (i2 h)))

theorem wordsE_hit {ns : List Nd} {kind : Int} {l : List Int} (hl : l.length = (sel (isK ns kind) ns.length).length) {k : Nat} (hk : k < l.length) (h : isW (l.getD k 0) (wdOf ns ((sel (isK ns kind) ns.length).getD k 0)) = false) : wordsE ns kind l = 3 := by
  unfold wordsE
  rw [if_neg (by simp [hl]), if_pos (List.any_eq_true.2 ⟨k, List.mem_range.2 hk, by rw [h]; rfl⟩)]
theorem wordsE_ok {ns : List Nd} {kind : Int} {l : List Int} (hl : l.length = (sel (isK ns kind) ns.length).length) (h : ∀ k, k < l.length → isW (l.getD k 0) (wdOf ns ((sel (isK ns kind) ns.length).getD k 0)) = true) : wordsE ns kind l = 0 := by
  unfold wordsE
  rw [if_neg (by simp [hl]), if_neg]
  rw [Bool.not_eq_true, List.any_eq_false]
  intro i hi
  rw [h i (List.mem_range.1 hi)]
  simp

theorem getD_at {l : List Int} {k : Nat} (h : k < l.length) : l.getD k 0 = l[k] := by simp [List.getD, List.getElem?_eq_getElem h]

set_option maxRecDepth 100000 in
set_option maxHeartbeats 2000000 in
theorem fitW_any (m : Mv) (ns : List Nd) (hl : ns.length ≤ 80) (hW : Wok ns) (kind : Int) (l : List Int) (p : Option Addr) (cap : Nat) (hll : l.length ≤ maxLen) (w : World) (hN : NodesAt w m.a0 ns) (hI : IntsAt w p l) :
    Calls Tryz.prog 64 #[m.val ns.length, .int .i64 kind, .slice p l.length cap] w fun e w' => e = .returned (.int .i64 (wordsE ns kind l)) ∧ Below w.heap.size w w' := by
  obtain ⟨a0, c0, a1, l1, c1, a2, l2, c2, a3, l3, c3, a4, l4, c4⟩ := m
  simp only at hN
  unfold maxLen at hll
  have HW := hide hW
  have HI := hide hI
  have HN := hide hN
  have HBx := hide (Box.new w ⟨a0, c0, a1, l1, c1, a2, l2, c2, a3, l3, c3, a4, l4, c4⟩ ns.length)
  have HB0 : Hid (Below w.heap.size w (w.alloc (.cells (Mv.cells ⟨a0, c0, a1, l1, c1, a2, l2, c2, a3, l3, c3, a4, l4, c4⟩ ns.length) 26))) := bal (Below.refl _ _) _
  have HK := hide (fun _ : Unit => ofKind_any a0 c0 ns (by omega) kind _ (hN.later HB0.out))
  have HBD : Hid (∀ k (h : k < (sel (isK ns kind) ns.length).length), 0 ≤ (sel (isK ns kind) ns.length)[k] ∧ (sel (isK ns kind) ns.length)[k] < ns.length) := fun k h => sel_bd h
  have hsl := sel_len (isK ns kind) ns.length
  have HH := hide (@wordsE_hit ns kind l)
  have HO := hide (@wordsE_ok ns kind l)
  have HM : Hid (l.length ≠ (sel (isK ns kind) ns.length).length → wordsE ns kind l = 2) := fun h => by unfold wordsE; rw [if_pos h]
  clear hN hI hW
  generalize sel (isK ns kind) ns.length = S at *
  generalize wordsE ns kind l = we at *
  go_enter Tryz.func64, Tryz.ntmps64
  go_wp2_with fail
  refine (HK.out ()).mono ?_
  rintro e w1 ⟨q, qc, rfl, hQ, hb1⟩
  have HB1 := hide (bthen HB0.out hb1)
  have HX1 := hide (HBx.out.later hb1)
  have HQ := hide hQ
  have q0 := HX1.out.1
  clear hb1 hQ HB0 HBx HK
  by_cases hlen : l.length = S.length
  · have hne : ((l.length : Int) != (S.length : Int)) = false := by simp [hlen]
    have HL := hide hlen
    clear hlen HM
    go_wp2
    go_loopw [21] (fun i wr => ∃ k : Nat, k ≤ S.length ∧ i = .int .i64 k ∧ Below w1.heap.size w1 wr ∧ Hid (∀ i, i < k → isW (l.getD i 0) (wdOf ns (S.getD i 0)) = true)) (fun i _ => S.length - (intOf i).toNat)
    case atStart => exact ⟨0, Nat.zero_le _, rfl, Below.refl _ _, fun i hi => by omega⟩
    case round =>
      obtain ⟨k, hk, rfl, hbw, hz⟩ := hrel
      clear q0
      have q0 := cell_later hbw HX1.out.1
      by_cases hlt : k < S.length
      · have hlt2 : k < l.length := by have := HL.out; omega
        obtain ⟨b, off, rfl, hc⟩ := (HQ.out.later hbw) (by omega)
        obtain ⟨b2, off2, rfl, hc2⟩ := (HI.out.later (bthen HB1.out hbw)) (by omega)
        have d0 := hc k hlt
        have d1 := hc2 k hlt2
        have hkl : (k : Int) < (S.length : Int) := by omega
        have hkl2 : (k : Int) < (l.length : Int) := by omega
        obtain ⟨s0, s1⟩ := HBD.out k hlt
        have HY : Hid (isW l[k] (wdOf ns S[k]) = false → we = 3) := fun h => HH.out HL.out hlt2 (by rw [getD_at hlt2, getD_at hlt]; exact h)
        have HZ : Hid (isW l[k] (wdOf ns S[k]) = true → ∀ i, i < k + 1 → isW (l.getD i 0) (wdOf ns (S.getD i 0)) = true) := by
          intro h i hik
          rcases Nat.lt_succ_iff_lt_or_eq.1 hik with h1 | rfl
          · exact hz.out i h1
          · rw [getD_at hlt2, getD_at hlt]; exact h
        clear hc hc2 hz
        generalize l[k] = x at *
        generalize S[k] = s at *
        obtain ⟨nb, noff, rfl, hnc⟩ := (HN.out.later (bthen HB1.out hbw)) (by omega)
        have k2 := (kd_wd hnc s s0 s1).2
        have HBT := hide (fun w => isWord_any x (wdOf ns s) (wdOf_bd HW.out s) w)
        clear hnc
        generalize wdOf ns s = wd at *
        cases hxb : isW x wd
        · have HE := hide (HY.out hxb)
          rw [hxb] at HBT
          clear HY HZ hxb
          go_wp2
          go_quiet (first | (go_at_call 75; exact Calls.quiet_of_same (HBT.out _)))
          go_wp2
          go_ret
          exact ⟨ret_int HE.out.symm, below_drewN (bthen HB1.out hbw) _⟩
        · have HZ2 := hide (HZ.out hxb)
          rw [hxb] at HBT
          clear HY HZ hxb
          go_wp2
          go_quiet (first | (go_at_call 75; exact Calls.quiet_of_same (HBT.out _)))
          go_wp2
          go_roundw
          case rel => first | exact ⟨k + 1, by omega, by go_num, below_drewN hbw _, HZ2⟩ | ((repeat apply Exists.intro); exact ⟨⟨k + 1, by omega, by go_num, below_drewN hbw _, HZ2⟩, rfl⟩)
          case measure => simp [intOf]; omega
      · have HE : Hid (we = 0) := HO.out HL.out (fun i hi => hz.out i (by have := HL.out; omega))
        clear hz
        go_wp2
        go_ret
        exact ⟨ret_int HE.out.symm, bthen HB1.out hbw⟩
  · have hne : ((l.length : Int) != (S.length : Int)) = true := by simp; omega
    have HE := hide (HM.out hlen)
    clear hlen HM
    go_wp2
    go_ret
    exact ⟨ret_int HE.out.symm, HB1.out⟩

end Go.Proofs.YtfobcnhibhbbaaaGreatDoor.Ev
