/- An explorer meets a state: the walk. -/
import Derived.Test.YtfobcnhibhbbaaaYgM
import Derived.Deep.RegionLaw
import Derived.Deep.RegionHeld3
import Derived.Deep.QuietTactic
import Derived.BigQuiet
namespace Go.Proofs.Ytfobcnhibhbbaaa.Xp
open Go.RowKit Go.Maps Go.WideMaps Go.WideShapes
set_option maxRecDepth 100000

/-- An explorer in memory: its block, its map, the states that are still to be left; X: the blocks that are its own. -/
structure Ex (w : World) (X : Nat → Prop) (B S nM : Nat) (v0 v1 v2 v3 v4 va : Value) (n : Nat) (m : List (Sg × Nat)) (rows : List Rw) (f : Fd) : Prop where
  bd : w.heap[B]? = some (.cells #[v0, v1, v2, v3, v4, .map (some S), va, .int .i64 f.r, .int .i64 f.dp, .bool f.bad, .int .i64 f.bdd] 49 (0, 0))
  mt : ∃ D : DataW Unit, w.ownsMap Try.prog 55 (plainElem Try.prog 3) S nM D ∧ MtIs n m D
  ah : AhAt X w va rows
  rin : ∀ r ∈ rows, IntsAt w r.at' r.ns ∧ ∀ a, 0 < r.ns.length → r.at' = some a → ¬ X a.block
  ft : ∀ x ∈ m, Fits n x.1
  n10 : n ≤ 10
  xe : X B
  xs : X S
  xb : ∀ g, X g → g < w.heap.size
section
variable {w : World} {X : Nat → Prop} {B S nM : Nat} {v0 v1 v2 v3 v4 va : Value} {n : Nat} {m : List (Sg × Nat)} {rows : List Rw} {f : Fd}
theorem Ex.ne (h : Ex w X B S nM v0 v1 v2 v3 v4 va n m rows f) : S ≠ B := by obtain ⟨D, h1, _⟩ := h.mt; exact heap_nmap h1 h.bd
theorem ah_block (h : AhAt X w va rows) {g : Nat} (hg : va.ownBlock = some g) : X g ∧ ∃ cur, w.heap[g]? = some (.cells cur 24 (0, 0)) := by
  rcases h with ⟨rfl, _⟩ | ⟨g', off, cap, cur, rfl, hb, hX, _⟩
  · simp [Value.ownBlock] at hg
  · simp only [Value.ownBlock, Option.some.injEq] at hg
    subst hg
    exact ⟨hX, cur, hb⟩
theorem ints_same {w w1 : World} {p : Option Addr} {l : List Int} (h : IntsAt w p l) (hs : ∀ a, 0 < l.length → p = some a → w1.heap[a.block]? = w.heap[a.block]?) : IntsAt w1 p l := fun h0 => by
  obtain ⟨b, off, e, hc⟩ := h h0
  exact ⟨b, off, e, fun i hi => by rw [World.cell?_of_block (w := w) (a := ⟨b, off + i, none⟩) (hs ⟨b, off, none⟩ h0 e)]; exact hc i hi⟩
theorem Ex.later {w1 : World} (h : Ex w X B S nM v0 v1 v2 v3 v4 va n m rows f) (hb : Below w.heap.size w w1) : Ex w1 X B S nM v0 v1 v2 v3 v4 va n m rows f := by
  refine ⟨(hb.block B (h.xb B h.xe)).trans h.bd, ?_, h.ah.same (fun _ e => e) (fun g hg => hb.block g (h.xb g (ah_block h.ah hg).1)), fun r hr => ⟨(h.rin r hr).1.later hb, (h.rin r hr).2⟩, h.ft, h.n10, h.xe, h.xs, fun g hg => Nat.lt_of_lt_of_le (h.xb g hg) hb.size⟩
  obtain ⟨D, h1, h2⟩ := h.mt
  exact ⟨D, map_same h1 (hb.block S h1.lt), h2⟩
end
theorem zero3 (w : World) : (zeroValue 3).run Try.prog w = .ok (.int .i64 0) w := by kernel_rfl
theorem lit_inj {a b : Int} (h : (DataW.lit (.int .i64 a) : DataW Unit) = .lit (.int .i64 b)) : a = b := by simpa using h
theorem look47 {w : World} {S nM n : Nat} {m : List (Sg × Nat)} {D : DataW Unit} (h1 : w.ownsMap Try.prog 55 (plainElem Try.prog 3) S nM D) (h2 : MtIs n m D) (hn : n ≤ 10) {s : Sg} (hs : Fits n s) :
    ∃ c, (Instr.lookup 47 (.map (some S)) (plV (pad s)) true).run Try.prog w = .ok (.tuple #[.int .i64 c, .bool (decide (s ∈ m.map (·.1)))]) w ∧ ∀ k, (s, k) ∈ m → c = k := by
  obtain ⟨v, ps, h3, h4⟩ := World.ownsMap.look_ok h1 lawP Try.underlying47 (zero3 _) (plainElem_int Try.underlying3 (a := 0) (by decide)) (keyP (pad_len (by rw [hs.1]; exact hn)) (pad_wf hs.2))
  obtain ⟨c, rfl, h5, _⟩ := plainElem_int_inv Try.underlying3 h4
  rw [h2.has s hs] at h3
  refine ⟨c, h3, fun k hk => ?_⟩
  have h6 := h2.at' s k hk
  have h7 := congrArg Prod.fst h5
  simp only at h7
  rw [h6] at h7
  exact (lit_inj h7).symm
/-- What meet leaves. -/
def MeOut (w : World) (X : Nat → Prop) (B S nM : Nat) (v0 v1 v2 v3 v4 : Value) (n : Nat) (m : List (Sg × Nat)) (rows : List Rw) (f : Fd) (r : Rw) (k : Nat) (e : Ending) (w' : World) : Prop :=
  e = .returned (.tuple #[]) ∧ ∃ X' va', Ex w' X' B S (nM + 1) v0 v1 v2 v3 v4 va' n (meetE m r.ns k) (if r.ns ∈ m.map (·.1) then rows else rows ++ [r]) (if r.ns ∈ m.map (·.1) then f else { f with r := f.r + 1, dp := k }) ∧ Fr X w w' X'
set_option maxHeartbeats 4000000 in
theorem meet_any (w : World) (X : Nat → Prop) (B S nM : Nat) (v0 v1 v2 v3 v4 va : Value) (n : Nat) (m : List (Sg × Nat)) (rows : List Rw) (f : Fd) (h : Ex w X B S nM v0 v1 v2 v3 v4 va n m rows f) (r : Rw) (hs : Fits n r.ns) (hI : IntsAt w r.at' r.ns) (hX : ∀ a, 0 < r.ns.length → r.at' = some a → ¬ X a.block) (k : Nat) (hk : k ≤ 100000) (hr : rows.length ≤ 100000) (hnM : nM ≤ 1000000000) (hf : 0 ≤ f.r ∧ f.r ≤ 1000000) :
    Calls Try.prog 35 #[.pointer (some ⟨B, 0, none⟩), r.v, .int .i64 k] w (MeOut w X B S nM v0 v1 v2 v3 v4 n m rows f r k) := by
  obtain ⟨p, s, cap⟩ := r
  have hs10 : s.length ≤ 10 := by rw [hs.1]; exact h.n10
  have HPL := hide (placeOf_any s hs10 p cap w hI)
  obtain ⟨a0, a1, a2, a3, a4, a5, a6, a7, a8, a9, hp⟩ := ten (pad_len hs10)
  have HP := hide hp
  have H := hide h
  have HS := hide hs
  have HI := hide hI
  have HX := hide hX
  simp only [Rw.v]
  generalize hsl : s.length = sl at *
  clear h hs hI hX hp
  go_enter Try.func35, Try.ntmps35
  go_wp2_with fail
  refine HPL.out.mono ?_
  rw [HP.out]
  rintro e w1 ⟨rfl, hb1⟩
  have H1 := hide (H.out.later hb1)
  have HF1 : Hid (Fr X w w1 X) := Fr.quiet hb1
  have HI1 := hide (HI.out.later hb1)
  unfold plV
  simp only [List.map_cons, List.map_nil]
  clear hb1 HPL
  go_upto_region 1 with fail
  have hal : Below w1.heap.size w1 (w1.alloc (.cells #[.int .i64 a0, .int .i64 a1, .int .i64 a2, .int .i64 a3, .int .i64 a4, .int .i64 a5, .int .i64 a6, .int .i64 a7, .int .i64 a8, .int .i64 a9] 55)) := bal (Below.refl _ _) _
  have b0 : (w1.alloc (.cells #[.int .i64 a0, .int .i64 a1, .int .i64 a2, .int .i64 a3, .int .i64 a4, .int .i64 a5, .int .i64 a6, .int .i64 a7, .int .i64 a8, .int .i64 a9] 55)).heap[w1.heap.size]? = some (.cells #[.int .i64 a0, .int .i64 a1, .int .i64 a2, .int .i64 a3, .int .i64 a4, .int .i64 a5, .int .i64 a6, .int .i64 a7, .int .i64 a8, .int .i64 a9] 55) := (MapKept.heap_alloc w1 _).1
  have H2 := hide (H1.out.later hal)
  have HF2 : Hid (Fr X w (w1.alloc (.cells #[.int .i64 a0, .int .i64 a1, .int .i64 a2, .int .i64 a3, .int .i64 a4, .int .i64 a5, .int .i64 a6, .int .i64 a7, .int .i64 a8, .int .i64 a9] 55)) X) := HF1.out.trans (Fr.quiet hal)
  have HI2 := hide (HI1.out.later hal)
  have HBX : Hid (¬ X w1.heap.size) := fun e => by have := H1.out.xb _ e; omega
  generalize w1.alloc (.cells #[.int .i64 a0, .int .i64 a1, .int .i64 a2, .int .i64 a3, .int .i64 a4, .int .i64 a5, .int .i64 a6, .int .i64 a7, .int .i64 a8, .int .i64 a9] 55) = w2 at *
  generalize w1.heap.size = bx at *
  have HBOX := hide b0
  have bcell : ∀ j, w2.cell? ⟨bx, j, none⟩ = (#[.int .i64 a0, .int .i64 a1, .int .i64 a2, .int .i64 a3, .int .i64 a4, .int .i64 a5, .int .i64 a6, .int .i64 a7, .int .i64 a8, .int .i64 a9] : Array Value)[j]? := Lib.cell_of_heap b0
  obtain ⟨cs, hcs⟩ : ∃ cs : List Value, cs = [.int .i64 a0, .int .i64 a1, .int .i64 a2, .int .i64 a3, .int .i64 a4, .int .i64 a5, .int .i64 a6, .int .i64 a7, .int .i64 a8, .int .i64 a9] := ⟨_, rfl⟩
  have hu55 : Try.prog.underlying 55 = some (.array 10 3) := Try.underlying55
  have hi55 : (Try.prog.info? 55).map (·.size) = some cs.length := by rw [hcs]; kernel_rfl
  have hra : w2.rangeAt bx 0 cs := fun j v hj => by
    rw [hcs] at hj
    rw [Nat.zero_add, bcell j, ← hj, ← List.getElem?_toArray]
  have c5 : w2.cell? ⟨B, 5, none⟩ = some (.map (some S)) := by rw [Lib.cell_of_heap H2.out.bd]; rfl
  obtain ⟨D, hD, hMt⟩ := H2.out.mt
  obtain ⟨c, hlk, _⟩ := look47 (w := w2.drew) hD.drew hMt H2.out.n10 HS.out
  have hpl : plV (pad s) = .agg cs.toArray := by rw [HP.out, hcs]; rfl
  rw [hpl] at hlk
  have HPV := hide hpl
  clear hpl hcs
  have HD := hide (And.intro hD hMt)
  clear b0 bcell hal hD hMt H1 HF1 HI1
  by_cases hin : s ∈ m.map (·.1)
  · have hd : decide (s ∈ m.map (·.1)) = true := decide_eq_true hin
    rw [hd] at hlk
    have HIN := hide hin
    clear hd hin
    go_region_held3 (fun w' => w'.cell? ⟨B, 5, none⟩ = some (.map (some S)) ∧ w'.rangeAt bx 0 cs) (first | exact ⟨c5, hra⟩ | go_keep) (fail)
    go_wp2_with fail
    refine bodyPost_ret (results_none rfl _ _ _) rfl ?_
    have hE := H2.out.later (Below.refl _ w2).drew
    refine ⟨rfl, X, va, ?_, HF2.out.trans (Fr.quiet (Below.refl _ w2).drew)⟩
    simp only [HIN.out, if_true, meetE]
    exact ⟨hE.bd, by obtain ⟨D, h1, h2⟩ := hE.mt; exact ⟨D, h1.mono (Nat.le_succ _), h2⟩, hE.ah, hE.rin, hE.ft, hE.n10, hE.xe, hE.xs, hE.xb⟩
  · have hd : decide (s ∈ m.map (·.1)) = false := decide_eq_false hin
    rw [hd] at hlk
    have HIN := hide hin
    clear hd hin
    go_region_held3 (fun w' => w'.cell? ⟨B, 5, none⟩ = some (.map (some S)) ∧ w'.rangeAt bx 0 cs) (first | exact ⟨c5, hra⟩ | go_keep) (fail)
    obtain ⟨w3, hrun3, hown3, hg3⟩ := (HD.out.1.drew.drew).update lawP Try.underlying47 (show nM < maxLen by unfold maxLen; omega) (keyP (pad_len (by rw [HS.out.1]; exact H2.out.n10)) (pad_wf HS.out.2)) (plainElem_int Try.underlying3 (a := (k : Int)) (WalkArith.wf_i64 (by omega)))
    rw [HPV.out] at hrun3
    have hSB := H2.out.ne
    have hSx : Hid (S ≠ bx) := fun e => HBX.out (e ▸ H2.out.xs)
    have d5 : w3.cell? ⟨B, 5, none⟩ = some (.map (some S)) := hg3.cell c5 (by simpa using fun e => hSB e.symm)
    have hra3 : w3.rangeAt bx 0 cs := fun j v hj => hg3.cell (hra j v hj) (by simpa using fun e => hSx.out e.symm)
    go_upto_region 3 with fail
    go_region_held3 (fun w' => w'.cell? ⟨B, 5, none⟩ = some (.map (some S)) ∧ w'.rangeAt bx 0 cs) (first | exact ⟨c5, hra⟩ | exact ⟨d5, hra3⟩ | go_keep) (fail)
    have hbl3 : ∀ g, g < w2.heap.size → g ≠ S → w3.heap[g]? = w2.heap[g]? := fun g hg hne => hg3.block g hg (by simpa using hne)
    have hsz3 : w2.heap.size ≤ w3.heap.size := hg3.size
    have hbd3 := (hbl3 B (H2.out.xb B H2.out.xe) (fun e => hSB e.symm)).trans H2.out.bd
    have hah3 : AhAt X w3 va rows := H2.out.ah.same (fun _ e => e) fun g hg => by
      obtain ⟨h1, cur, h2⟩ := ah_block H2.out.ah hg
      exact hbl3 g (H2.out.xb g h1) fun e => heap_nmap HD.out.1 h2 e.symm
    have hF3 : Fr X w2 w3 X := ⟨hg3.os, hg3.tape, hg3.output, hsz3, fun g hg hx => hbl3 g hg (fun e => hx (e ▸ H2.out.xs)), fun _ e => e, fun _ _ e => e⟩
    have hmt3 : ∃ D : DataW Unit, w3.ownsMap Try.prog 55 (plainElem Try.prog 3) S (nM + 1) D ∧ MtIs n (m ++ [(s, k)]) D := ⟨_, hown3, HD.out.2.put H2.out.n10 HD.out.1.isMap H2.out.ft HS.out HIN.out k⟩
    have hv : (⟨p, s, cap⟩ : Rw).v = .slice p sl cap := by rw [Rw.v, hsl]
    obtain ⟨va', w4, X4, hrun4, hah4, hF4, ⟨pp, nn, cc, hva⟩, hxb4, hold4, hnew4⟩ := ah_append hah3 (fun g hg => Nat.lt_of_lt_of_le (H2.out.xb g hg) hsz3) ⟨p, s, cap⟩ hr 39
    rw [hv] at hrun4
    have hnB : va.ownBlock ≠ some B := fun e => by
      obtain ⟨_, cur, h2⟩ := ah_block hah3 e
      rw [hbd3] at h2
      simp at h2
    have hnS : va.ownBlock ≠ some S := fun e => by
      obtain ⟨_, cur, h2⟩ := ah_block hah3 e
      obtain ⟨D', h3, _⟩ := hmt3
      exact heap_nmap h3 h2 rfl
    have hB3 : B < w3.heap.size := (Array.getElem?_eq_some_iff.1 hbd3).1
    have hbd4 := (hold4 B hB3 hnB).trans hbd3
    have c6 : w3.cell? ⟨B, 6, none⟩ = some va := by rw [Lib.cell_of_heap hbd3]; rfl
    have g6 : w4.cell? ⟨B, 6, none⟩ = some va := by rw [Lib.cell_of_heap hbd4]; rfl
    have g7 : w4.cell? ⟨B, 7, none⟩ = some (.int .i64 f.r) := by rw [Lib.cell_of_heap hbd4]; rfl
    have g8 : w4.cell? ⟨B, 8, none⟩ = some (.int .i64 f.dp) := by rw [Lib.cell_of_heap hbd4]; rfl
    have f6 : w4.frozen? ⟨B, 6, none⟩ = false := Lib.frozen_of_heap hbd4 6
    have f7 : w4.frozen? ⟨B, 7, none⟩ = false := Lib.frozen_of_heap hbd4 7
    have f8 : w4.frozen? ⟨B, 8, none⟩ = false := Lib.frozen_of_heap hbd4 8
    have HEX : Hid (Ex (((w4.setCell ⟨B, 6, none⟩ va').setCell ⟨B, 7, none⟩ (.int .i64 (f.r + 1))).setCell ⟨B, 8, none⟩ (.int .i64 k)) X4 B S (nM + 1) v0 v1 v2 v3 v4 va' n (m ++ [(s, k)]) (rows ++ [⟨p, s, cap⟩]) { f with r := f.r + 1, dp := k }) := by
      have hs' : ∀ g, g ≠ B → (((w4.setCell ⟨B, 6, none⟩ va').setCell ⟨B, 7, none⟩ (.int .i64 (f.r + 1))).setCell ⟨B, 8, none⟩ (.int .i64 k)).heap[g]? = w4.heap[g]? := fun g hg => (Below.heap_setCell _ _ _ _ hg).trans ((Below.heap_setCell _ _ _ _ hg).trans (Below.heap_setCell _ _ _ _ hg))
      have hszz : (((w4.setCell ⟨B, 6, none⟩ va').setCell ⟨B, 7, none⟩ (.int .i64 (f.r + 1))).setCell ⟨B, 8, none⟩ (.int .i64 k)).heap.size = w4.heap.size := by simp
      refine ⟨?_, ?_, hah4.same (fun _ e => e) (fun g hg => hs' g fun e => ?_), fun r hrm => ?_, fun x hx => ?_, H2.out.n10, hF4.to B H2.out.xe, hF4.to S H2.out.xs, fun g hg => by rw [hszz]; exact hxb4 g hg⟩
      · rw [heap_setCell_same _ _ _ _ _ _ (heap_setCell_same _ _ _ _ _ _ (heap_setCell_same _ _ _ _ _ _ hbd4))]; rfl
      · obtain ⟨D', h1, h2⟩ := hmt3
        exact ⟨D', map_same h1 ((hs' S hSB).trans (hold4 S h1.lt hnS)), h2⟩
      · obtain ⟨_, cur, h2⟩ := ah_block hah4 hg
        rw [e, hbd4] at h2
        simp at h2
      · have hin : IntsAt w2 r.at' r.ns ∧ ∀ a, 0 < r.ns.length → r.at' = some a → ¬ X a.block := by
          rcases List.mem_append.1 hrm with hrm | hrm
          · exact H2.out.rin r hrm
          · obtain rfl : r = ⟨p, s, cap⟩ := by simpa using hrm
            exact ⟨HI2.out, fun a h0 => HX.out a (by simpa [hsl] using h0)⟩
        have hblt : ∀ a, 0 < r.ns.length → r.at' = some a → a.block < w2.heap.size := fun a h0 ha => by
          obtain ⟨b', off', e, hc⟩ := hin.1 h0
          rw [ha] at e
          injection e with e
          subst e
          exact World.block_lt_of_cell? _ _ (hc 0 h0)
        refine ⟨ints_same hin.1 fun a h0 ha => ?_, fun a h0 ha hx => ?_⟩
        · have hxa := hin.2 a h0 ha
          have hla := hblt a h0 ha
          exact (hs' a.block (fun e => hxa (by rw [e]; exact H2.out.xe))).trans ((hold4 a.block (by omega) (fun e => hxa (ah_block hah3 e).1)).trans (hbl3 a.block hla (fun e => hxa (by rw [e]; exact H2.out.xs))))
        · rcases hnew4 _ hx with h1 | h1
          · exact hin.2 a h0 ha h1
          · have := hblt a h0 ha; omega
      · rcases List.mem_append.1 hx with hx | hx
        · exact H2.out.ft x hx
        · obtain rfl : x = (s, k) := by simpa using hx
          exact HS.out
    have HFF : Hid (Fr X w (((w4.setCell ⟨B, 6, none⟩ va').setCell ⟨B, 7, none⟩ (.int .i64 (f.r + 1))).setCell ⟨B, 8, none⟩ (.int .i64 k)) X4) := (((((HF2.out.trans hF3).trans hF4).trans (Fr.set (q := ⟨B, 6, none⟩) (hF4.to B H2.out.xe) _)).trans (Fr.set (q := ⟨B, 7, none⟩) (hF4.to B H2.out.xe) _)).trans (Fr.set (q := ⟨B, 8, none⟩) (hF4.to B H2.out.xe) _))
    obtain ⟨hf1, hf2⟩ := hf
    have hwr : wrap64 (f.r + 1) = f.r + 1 := by unfold wrap64; omega
    subst hva
    clear hbl3 hbd3 hah3 hF3 hmt3 hah4 hF4 hxb4 hold4 hnew4 hnB hnS hbd4 hown3 hg3 hrun3 hra hra3 c5 d5 hlk hv
    go_wp2_with (at_builtin; refine Lib.wpList_append_run _ rfl _ _ _ _ rfl _ _ rfl rfl _ _ hrun4 ?_)
    go_end0
    refine ⟨rfl, X4, .slice (some pp) nn cc, ?_, HFF.out⟩
    simp only [HIN.out, if_false, meetE]
    exact HEX.out
end Go.Proofs.Ytfobcnhibhbbaaa.Xp
