/- A place: the words of all states, as a map's key. -/
import Derived.Test.YtfobcnhibhbbaaaGreatDoorYc
import Derived.Test.YtfobcnhibhbbaaaGreatDoorEaM
import Derived.WideKeyPair
import Derived.Maps.OwnSet
import Derived.Laws.IdiomCopy
namespace Go.Proofs.YtfobcnhibhbbaaaGreatDoor.Ev.Xp
open Go.RowKit Go.Maps Go.WideMaps Go.WideShapes
set_option maxRecDepth 100000

theorem arr : ArrKey Tryz.prog 59 3 10 := ⟨Tryz.underlying59, by kernel_rfl, by kernel_rfl, by kernel_rfl⟩
theorem lawP : Keyed Tryz.prog 59 := Keyed.of_law arr.law
theorem sized : ∃ m, Tryz.prog.types.size = m + 1 := ⟨194, by kernel_rfl⟩
def WfI (x : Int) : Prop := (Lit.int .i64 x).wf = true
/-- A place, as a value and as a key. -/
def plV (l : List Int) : Value := .agg (l.map (Value.int .i64)).toArray
def plK (l : List Int) : Lit := .string (keyBytes (l.map (Lit.int .i64)))
theorem keyP {l : List Int} (hl : l.length = 10) (hw : ∀ x ∈ l, WfI x) : keyOf Tryz.prog 59 (plV l) = some (plK l) := by
  match l, hl with
  | [a0, a1, a2, a3, a4, a5, a6, a7, a8, a9], _ =>
    have w0 : (Lit.int .i64 a0).wf = true := hw a0 (by simp)
    have w1 : (Lit.int .i64 a1).wf = true := hw a1 (by simp)
    have w2 : (Lit.int .i64 a2).wf = true := hw a2 (by simp)
    have w3 : (Lit.int .i64 a3).wf = true := hw a3 (by simp)
    have w4 : (Lit.int .i64 a4).wf = true := hw a4 (by simp)
    have w5 : (Lit.int .i64 a5).wf = true := hw a5 (by simp)
    have w6 : (Lit.int .i64 a6).wf = true := hw a6 (by simp)
    have w7 : (Lit.int .i64 a7).wf = true := hw a7 (by simp)
    have w8 : (Lit.int .i64 a8).wf = true := hw a8 (by simp)
    have w9 : (Lit.int .i64 a9).wf = true := hw a9 (by simp)
    have he := Tryz.underlying3
    have hkt := arr.keyType sized
    obtain ⟨m, hm⟩ := sized
    unfold plV plK keyOf
    simp only [arr.hu]
    rw [if_pos (by simp [hkt, Value.formed, arr.hu, arr.size]), hm]
    unfold Program.keyLits
    simp only [arr.hu, Value.cells]
    rw [if_pos (by rw [arr.size]; rfl), show List.range 10 = [0, 1, 2, 3, 4, 5, 6, 7, 8, 9] from rfl]
    simp only [List.mapM_cons, List.mapM_nil]
    simp [arr.one, Program.keyLits, he, w0, w1, w2, w3, w4, w5, w6, w7, w8, w9]
theorem keyP_inj {l l' : List Int} (hl : l.length = 10) (hl' : l'.length = 10) (hw : ∀ x ∈ l, WfI x) (hw' : ∀ x ∈ l', WfI x) (h : plK l = plK l') : l = l' := by
  have h1 := keyP hl hw
  rw [h] at h1
  have := lawP.inj h1 (keyP hl' hw')
  unfold plV at this
  injection this with this
  have h2 : l.map (Value.int .i64) = l'.map (Value.int .i64) := by simpa using this
  have h3 := congrArg (List.map intOf) h2
  simpa [List.map_map, Function.comp_def, intOf] using h3
/-- The words of ten states: those that there are, and 0. -/
def pad (l : List Int) : List Int := l ++ List.replicate (10 - l.length) 0
theorem pad_len {l : List Int} (h : l.length ≤ 10) : (pad l).length = 10 := by simp [pad]; omega
theorem pad_inj {l l' : List Int} (h : l.length = l'.length) (e : pad l = pad l') : l = l' := by
  unfold pad at e
  have h1 := congrArg (List.take l.length) e
  rw [List.take_left', h, List.take_left'] at h1
  · exact h1
  · rfl
  · rfl
theorem pad_wf {l : List Int} (h : ∀ x ∈ l, WfI x) : ∀ x ∈ pad l, WfI x := by
  intro x hx
  rcases List.mem_append.1 hx with hx | hx
  · exact h x hx
  · rw [List.eq_of_mem_replicate hx]; rfl
/-- States of so many words, each small. -/
def Fits (n : Nat) (s : Sg) : Prop := s.length = n ∧ ∀ x ∈ s, WfI x
/-- What the map of what was met holds. -/
structure MtIs (n : Nat) (m : List (Sg × Nat)) (D : DataW Unit) : Prop where
  has : ∀ s, Fits n s → Maps.has D (plK (pad s)) = decide (s ∈ m.map (·.1))
  at' : ∀ s k, (s, k) ∈ m → D.atKey (plK (pad s)) (.lit (.int .i64 0)) = .lit (.int .i64 k)
theorem key_ne {n : Nat} (hn : n ≤ 10) {s t : Sg} (hs : Fits n s) (ht : Fits n t) (hne : s ≠ t) : plK (pad s) ≠ plK (pad t) := fun e =>
  hne (pad_inj (hs.1.trans ht.1.symm) (keyP_inj (pad_len (by rw [hs.1]; exact hn)) (pad_len (by rw [ht.1]; exact hn)) (pad_wf hs.2) (pad_wf ht.2) e))
theorem mtIs_zero (n : Nat) : MtIs n [] (.map []) := ⟨fun s _ => by simp; rfl, fun s k h => by simp at h⟩
theorem MtIs.put {n : Nat} (hn : n ≤ 10) {m : List (Sg × Nat)} {D : DataW Unit} (h : MtIs n m D) (hm : IsMap D) (hf : ∀ x ∈ m, Fits n x.1) {s : Sg} (hs : Fits n s) (hno : s ∉ m.map (·.1)) (k : Nat) : MtIs n (m ++ [(s, k)]) (D.put (plK (pad s)) (.lit (.int .i64 k))) := by
  refine ⟨fun t ht => ?_, fun t j hj => ?_⟩
  · by_cases e : t = s
    · subst e
      rw [has_put_same hm (k := plK (pad t)) trivial]
      simp
    · rw [has_put_other (key_ne hn ht hs e), h.has t ht]
      simp [e]
  · rcases List.mem_append.1 hj with hj | hj
    · have e : t ≠ s := fun e => hno (e ▸ List.mem_map.2 ⟨_, hj, rfl⟩)
      rw [atKey_put_other (key_ne hn (hf _ hj) hs e)]
      exact h.at' t j hj
    · simp at hj
      obtain ⟨rfl, rfl⟩ := hj
      rw [atKey_put_same hm (k := plK (pad t)) trivial]
end Go.Proofs.YtfobcnhibhbbaaaGreatDoor.Ev.Xp

namespace Go.Proofs.YtfobcnhibhbbaaaGreatDoor.Ev.Xp
open Go.RowKit Go.Maps Go.WideMaps Go.WideShapes
set_option maxRecDepth 100000

abbrev z10 : Obj := .cells #[.int .i64 0, .int .i64 0, .int .i64 0, .int .i64 0, .int .i64 0, .int .i64 0, .int .i64 0, .int .i64 0, .int .i64 0, .int .i64 0] 59
theorem z10_at (w : World) (i : Nat) (hi : i < 10) : (w.alloc z10).cell? ⟨w.heap.size, i, none⟩ = some (.int .i64 0) := by
  match i, hi with
  | 0, _ => simp [go_sem]
  | 1, _ => simp [go_sem]
  | 2, _ => simp [go_sem]
  | 3, _ => simp [go_sem]
  | 4, _ => simp [go_sem]
  | 5, _ => simp [go_sem]
  | 6, _ => simp [go_sem]
  | 7, _ => simp [go_sem]
  | 8, _ => simp [go_sem]
  | 9, _ => simp [go_sem]
/-- The words are copied into a new row of ten. -/
theorem copy10 (l : List Int) (hl : l.length ≤ 10) (p : Option Addr) (cap : Nat) (w : World) (hI : IntsAt (w.alloc z10) p l) :
    ∃ w', (Builtin.copy_ #[24, 24] 3 #[.slice (some ⟨w.heap.size, 0, none⟩) 10 10, .slice p l.length cap]).run Tryz.prog (w.alloc z10) = .ok (.int .i64 l.length) w' ∧ (∀ i, i < 10 → w'.cell? ⟨w.heap.size, i, none⟩ = some (.int .i64 ((pad l).getD i 0))) ∧ Below w.heap.size w w' := by
  have hfz : ∀ j, (w.alloc z10).frozen? ⟨w.heap.size, j, none⟩ = false := fun j => Lib.frozen_of_heap ((MapKept.heap_alloc w z10).1) j
  have hs : (Tryz.prog.info? 3).map (·.size) = some 1 := by kernel_rfl
  rcases Nat.eq_zero_or_pos l.length with h0 | h0
  · have hl0 : l = [] := List.eq_nil_of_length_eq_zero h0
    subst hl0
    refine ⟨w.alloc z10, run_copy_none (P := Tryz.prog) _ 24 24 3 3 _ p 10 10 0 cap Tryz.underlying24 hs (by simp), fun i hi => ?_, bal (Below.refl _ _) _⟩
    rw [z10_at w i hi]
    have : (pad []).getD i 0 = 0 := by
      rw [show pad [] = List.replicate 10 0 from rfl, List.getD, List.getElem?_replicate]
      split <;> rfl
    rw [this]
  · obtain ⟨b, off, hp, hc⟩ := hI h0
    subst hp
    have hrun := run_copy_cells (P := Tryz.prog) (w.alloc z10) 24 24 3 3 w.heap.size 0 10 10 ⟨b, off, none⟩ l.length cap (l.map (Value.int .i64)) Tryz.underlying24 hs (by rw [List.length_map]; exact (Nat.min_eq_left hl).symm) (fun j v hj => by
      obtain ⟨hjl, hjv⟩ := List.getElem?_eq_some_iff.1 hj
      have hjl' : j < l.length := by simpa using hjl
      rw [Addr.add_lit, hc j hjl', ← hjv]
      simp) (fun j hj => by rw [Nat.zero_add, z10_at w j (by simp at hj; omega)]; rfl) (fun j hj => by rw [Nat.zero_add]; exact hfz j) (fun v hv => by
      obtain ⟨x, _, rfl⟩ := List.mem_map.1 hv
      rfl)
    refine ⟨_, by rw [hrun, List.length_map]; rfl, fun i hi => ?_, ?_⟩
    · by_cases hil : i < l.length
      · have := World.cell?_setCells_in w.heap.size (l.map (Value.int .i64)) 0 (w.alloc z10) (fun j hj => by rw [Nat.zero_add, z10_at w j (by simp at hj; omega)]; rfl) i (by simpa using hil)
        rw [Nat.zero_add] at this
        rw [this]
        rw [pad, List.getD, List.getElem?_append_left hil, List.getElem?_eq_getElem hil]
        simp
      · rw [World.cell?_setCells_out w.heap.size (l.map (Value.int .i64)) 0 (w.alloc z10) _ (fun _ _ => .inr (by simp; omega)), z10_at w i hi]
        have : (pad l).getD i 0 = 0 := by
          rw [pad, List.getD, List.getElem?_append_right (Nat.le_of_not_lt hil), List.getElem?_replicate]
          split <;> rfl
        rw [this]
    · have hb : Below w.heap.size w (w.alloc z10) := bal (Below.refl _ _) _
      have hset : ∀ (cs : List Value) (o : Nat) (u : World), Below w.heap.size w u → Below w.heap.size w (u.setCells w.heap.size o cs) := by
        intro cs
        induction cs with
        | nil => intro o u hu; exact hu
        | cons c cs ih => intro o u hu; rw [World.setCells]; exact ih _ _ (hu.setCell (p := ⟨w.heap.size, o, none⟩) (Nat.le_refl _) c)
      exact hset _ _ _ hb
theorem ten {l : List Int} (h : l.length = 10) : ∃ a0 a1 a2 a3 a4 a5 a6 a7 a8 a9, l = [a0, a1, a2, a3, a4, a5, a6, a7, a8, a9] := by
  match l, h with
  | [a0, a1, a2, a3, a4, a5, a6, a7, a8, a9], _ => exact ⟨_, _, _, _, _, _, _, _, _, _, rfl⟩
set_option maxHeartbeats 2000000 in
theorem placeOf_any (l : List Int) (hl : l.length ≤ 10) (p : Option Addr) (cap : Nat) (w : World) (hI : IntsAt w p l) :
    Calls Tryz.prog 20 #[.slice p l.length cap] w fun e w' => e = .returned (plV (pad l)) ∧ Below w.heap.size w w' := by
  have hb1 : Below w.heap.size w (w.alloc z10) := bal (Below.refl _ _) _
  obtain ⟨w2, hrun, hc, hb2⟩ := copy10 l hl p cap (w.alloc z10) (hI.later ((bal hb1 _)))
  obtain ⟨a0, a1, a2, a3, a4, a5, a6, a7, a8, a9, hp⟩ := ten (pad_len hl)
  rw [hp] at hc
  have c0 := hc 0 (by omega)
  have c1 := hc 1 (by omega)
  have c2 := hc 2 (by omega)
  have c3 := hc 3 (by omega)
  have c4 := hc 4 (by omega)
  have c5 := hc 5 (by omega)
  have c6 := hc 6 (by omega)
  have c7 := hc 7 (by omega)
  have c8 := hc 8 (by omega)
  have c9 := hc 9 (by omega)
  have HB : Hid (Below w.heap.size w w2) := hb1.trans (hb2.mono (by simp))
  have hold : ∀ i, i < 10 → w2.cell? ⟨w.heap.size, i, none⟩ = some (.int .i64 0) ∧ w2.frozen? ⟨w.heap.size, i, none⟩ = false := fun i hi => by
    refine ⟨cell_later hb2 (z10_at w i hi), ?_⟩
    have hblk := hb2.block w.heap.size (by simp)
    rw [(MapKept.heap_alloc w z10).1] at hblk
    exact Lib.frozen_of_heap hblk i
  have HO := hide hold
  simp only [List.getD_cons_zero, List.getD_cons_succ] at c0 c1 c2 c3 c4 c5 c6 c7 c8 c9
  have hs1 : (w.alloc z10).heap.size = w.heap.size + 1 := by simp
  rw [hs1] at hrun c0 c1 c2 c3 c4 c5 c6 c7 c8 c9
  generalize hn : l.length = n at *
  rw [hp]
  clear hc hold hb1 hb2 hs1 hI hp hn
  have hne : ¬ w.heap.size = w.heap.size + 1 := by omega
  have hne' : ¬ w.heap.size + 1 = w.heap.size := by omega
  obtain ⟨o0, f0⟩ := HO.out 0 (by omega)
  obtain ⟨o1, f1⟩ := HO.out 1 (by omega)
  obtain ⟨o2, f2⟩ := HO.out 2 (by omega)
  obtain ⟨o3, f3⟩ := HO.out 3 (by omega)
  obtain ⟨o4, f4⟩ := HO.out 4 (by omega)
  obtain ⟨o5, f5⟩ := HO.out 5 (by omega)
  obtain ⟨o6, f6⟩ := HO.out 6 (by omega)
  obtain ⟨o7, f7⟩ := HO.out 7 (by omega)
  obtain ⟨o8, f8⟩ := HO.out 8 (by omega)
  obtain ⟨o9, f9⟩ := HO.out 9 (by omega)
  go_enter Tryz.func20, Tryz.ntmps20
  go_wp2_with fail
  refine bodyPost_ret (v := plV [a0, a1, a2, a3, a4, a5, a6, a7, a8, a9]) (by simp [results, Tryz.results20, go_sem, plV, o0, o1, o2, o3, o4, o5, o6, o7, o8, o9]) rfl ⟨rfl, ?_⟩
  exact (((((((((HB.out.setCell (Nat.le_refl _) _).setCell (Nat.le_refl _) _).setCell (Nat.le_refl _) _).setCell (Nat.le_refl _) _).setCell (Nat.le_refl _) _).setCell (Nat.le_refl _) _).setCell (Nat.le_refl _) _).setCell (Nat.le_refl _) _).setCell (Nat.le_refl _) _).setCell (Nat.le_refl _) _
end Go.Proofs.YtfobcnhibhbbaaaGreatDoor.Ev.Xp
