/- A list of numbers that comes in, and its room. -/
import Derived.Test.YtfobcnhibhbbaaaGreatDoorOa
import Derived.Test.YtfobcnhibhbbaaaGreatDoorHwM
import Derived.ProofKit
import Derived.OpenShut
import Derived.HandedShaped
import Derived.Shelf.Vars
import Derived.SizedLaws
import Derived.ChangeOld
import Derived.Below
import Derived.Deep.Slices
import Derived.Test.YtfobcnhibhbbaaaGreatDoorKaM
namespace Go.Proofs.YtfobcnhibhbbaaaGreatDoor.Ev
open Go.ChangeShapes Go.WideShapes Go.ChangeAt Go.RowKit Go.Deep
set_option maxRecDepth 100000

section
variable {H : Type} {enc : TypeId × Value → H} {W : World} {base : Nat} {sp : Nat → Bool} {held : Bool} {fuel : Nat} {v : Value} {x : DataW H × List MemPlace}

theorem in_intsC (h : DataW.trod enc Tryz.prog W base sp held fuel 24 [v] = some x) :
    ∃ p c l, v = .slice p (List.length l) c ∧ (p = none → c = 0) ∧ IntsAt W p l ∧ ((x.1.weights Tryz.prog 24).all (· ≤ reachBytes) = true → l.length ≤ 17592186043904) ∧ l.length ≤ c ∧ c ≤ maxLen := by
  rcases open_ints Tryz.underlying24 Tryz.underlying3 cells3 h with ⟨hcs, hx⟩ | ⟨a, len, cap, zs, hcs, _, hl, hm, hz, hx, hcell, _⟩
  · simp at hcs
    exact ⟨none, 0, [], hcs, fun _ => rfl, (fun h => by simp at h), (fun _ => by simp), by simp, by simp⟩
  · simp at hcs
    have hlz : len ≤ zs.length := by rw [hz]; split <;> omega
    refine ⟨some a, cap, zs.take len, by rw [hcs, List.length_take, Nat.min_eq_left hlz], (fun h => by cases h), ?_, ?_, by rw [List.length_take]; omega, hm⟩
    · intro h0
      rw [List.length_take, Nat.min_eq_left hlz] at h0
      obtain ⟨b, off, spot⟩ := a
      have hspot : spot = none := by simpa [Addr.add] using World.cell?_spot (hcell 0 (by omega))
      subst hspot
      refine ⟨b, off, rfl, fun i hi => ?_⟩
      have hi' : i < zs.length := by rw [List.length_take] at hi; omega
      have := hcell i hi'
      rw [Addr.add_lit] at this
      rw [this]
      simp [List.getD, List.getElem?_eq_getElem hi']
    · intro hw
      subst hx
      have := weigh Tryz.underlying24 hw
      rw [bytes3] at this
      simp only [lits, List.length_map, reachBytes] at this
      omega

end

end Go.Proofs.YtfobcnhibhbbaaaGreatDoor.Ev

namespace Go.Proofs.YtfobcnhibhbbaaaGreatDoor
open Go.RowKit
set_option maxRecDepth 100000

end Go.Proofs.YtfobcnhibhbbaaaGreatDoor

namespace Go.Proofs.YtfobcnhibhbbaaaGreatDoor
open Go.ChangeShapes Go.WideShapes Go.ChangeAt Go.RowKit Go.Deep
set_option maxRecDepth 100000

theorem own : ownKnob Tryz.prog.godebug = none := by kernel_rfl
theorem laidOut : laidOutB Tryz.prog = true := by kernel_rfl
theorem cellsT : Tryz.prog.cellsOf 29 = 2 := by kernel_rfl
theorem cellsR : Tryz.prog.cellsOf 27 = 1 := by kernel_rfl
theorem cellsI : Tryz.prog.cellsOf 24 = 1 := by kernel_rfl
theorem cellsN : Tryz.prog.cellsOf 3 = 1 := by kernel_rfl
theorem bytesI : Tryz.prog.bytesOf 24 = 24 := by kernel_rfl
theorem bytesN : Tryz.prog.bytesOf 3 = 8 := by kernel_rfl
theorem two_cells {α : Type} {cs : Array α} (h : cs.size = 2) : ∃ c0 c1, cs = #[c0, c1] := by
  obtain ⟨l⟩ := cs
  match l, h with
  | [a, b], _ => exact ⟨a, b, rfl⟩

section
variable {H : Type} {enc : TypeId × Value → H} {W : World} {base : Nat} {sp : Nat → Bool} {held : Bool} {fuel : Nat} {v : Value} {x : DataW H × List MemPlace}

theorem weigh {t e : TypeId} {es ss : List (DataW H)} (hu : Tryz.prog.underlying t = some (.slice e)) (h : ((DataW.slice es ss).weights Tryz.prog t).all (· ≤ reachBytes) = true) : es.length * Tryz.prog.bytesOf e ≤ reachBytes := by
  have h1 := List.all_eq_true.1 h ((es.length + ss.length) * Tryz.prog.bytesOf e) (by simp [DataW.weights, hu])
  have h2 : (es.length + ss.length) * Tryz.prog.bytesOf e ≤ reachBytes := by simpa using h1
  exact Nat.le_trans (Nat.mul_le_mul_right _ (Nat.le_add_right _ _)) h2
theorem weigh_all {e : TypeId} : ∀ {es : List (DataW H)}, (DataW.weightsAll Tryz.prog e es).all (· ≤ reachBytes) = true → ∀ d ∈ es, (d.weights Tryz.prog e).all (· ≤ reachBytes) = true
  | [], _, d, hd => by cases hd
  | a :: es, h, d, hd => by
    simp only [DataW.weightsAll, List.all_append, Bool.and_eq_true] at h
    rcases List.mem_cons.1 hd with rfl | hd
    · exact h.1
    · exact weigh_all h.2 d hd
theorem weigh_in {t e : TypeId} {es ss : List (DataW H)} (hu : Tryz.prog.underlying t = some (.slice e)) (h : ((DataW.slice es ss).weights Tryz.prog t).all (· ≤ reachBytes) = true) : ∀ d ∈ es, (d.weights Tryz.prog e).all (· ≤ reachBytes) = true := by
  simp only [DataW.weights, hu, List.all_cons, List.all_append, Bool.and_eq_true] at h
  exact weigh_all h.2.1
theorem wf_of {n : Int} (h : (Lit.int .i64 n).wf = true) : -9223372036854775808 ≤ n ∧ n ≤ 9223372036854775807 := by
  unfold Lit.wf at h
  simp only [Bool.and_eq_true, decide_eq_true_eq] at h
  exact ⟨h.1, h.2⟩

theorem in_row (h : DataW.trod enc Tryz.prog W base sp held fuel 24 [v] = some x) : ∃ r : Row, v = r.v ∧ IntsAt W r.at' r.ns ∧ (r.at' = none → r.cap = 0) ∧ ((x.1.weights Tryz.prog 24).all (· ≤ reachBytes) = true → Wide r) := by
  rcases open_ints Tryz.underlying24 Tryz.underlying3 cellsN h with ⟨hcs, hx⟩ | ⟨a, len, cap, zs, hcs, _, hl, hm, hz, hx, hcell, hwf⟩
  · simp at hcs
    exact ⟨⟨none, [], 0⟩, hcs, fun h => by simp at h, fun _ => rfl, fun _ => ⟨by simp, fun n hn => by simp at hn⟩⟩
  · simp at hcs
    have hlz : len ≤ zs.length := by rw [hz]; split <;> omega
    refine ⟨⟨some a, zs.take len, cap⟩, by rw [hcs]; unfold Row.v; simp only; rw [List.length_take, Nat.min_eq_left hlz], ?_, fun h => (by cases h), ?_⟩
    · intro h0
      simp only at h0
      rw [List.length_take, Nat.min_eq_left hlz] at h0
      obtain ⟨b, off, spot⟩ := a
      have hspot : spot = none := by simpa [Addr.add] using World.cell?_spot (hcell 0 (by omega))
      subst hspot
      refine ⟨b, off, rfl, fun i hi => ?_⟩
      simp only at hi
      have hi' : i < zs.length := by rw [List.length_take] at hi; omega
      have := hcell i hi'
      rw [Addr.add_lit] at this
      rw [this]
      simp [List.getD, List.getElem?_eq_getElem hi']
    · intro hw
      subst hx
      have := weigh Tryz.underlying24 hw
      rw [bytesN] at this
      simp only [lits, List.length_map, reachBytes] at this
      exact ⟨by simp only; omega, fun n hn => wf_of (hwf n (List.mem_of_mem_take hn))⟩

theorem in_rows (h : DataW.trod enc Tryz.prog W base sp held fuel 27 [v] = some x) :
    ∃ p c rs, v = .slice p (List.length rs) c ∧ RowsAt W p rs ∧ InAt W rs ∧ (p = none → c = 0) ∧ ((x.1.weights Tryz.prog 27).all (· ≤ reachBytes) = true → rs.length ≤ 5864062014800 ∧ ∀ r ∈ rs, Wide r) := by
  rcases open_slice1 Tryz.underlying27 cellsI h with ⟨hcs, hx⟩ | ⟨a, len, cap, m, n, V, D, Pl, hcs, _, hl, hm, hmm, hx, hcell⟩
  · simp at hcs
    exact ⟨none, 0, [], hcs, fun h => by simp at h, fun r hr => by simp at hr, fun _ => rfl, fun _ => ⟨by simp, fun r hr => by simp at hr⟩⟩
  · simp at hcs
    have hlm : len ≤ m := by rw [hmm]; split <;> omega
    have hinh : Inhabited Row := ⟨⟨none, [], 0⟩⟩
    obtain ⟨F, hF⟩ := choose_lt (α := Row) (n := len) (p := fun i r => V i = r.v ∧ IntsAt W r.at' r.ns ∧ (r.at' = none → r.cap = 0) ∧ (((D i).weights Tryz.prog 24).all (· ≤ reachBytes) = true → Wide r)) (fun i hi => in_row (hcell i (by omega)).2)
    have hlen : ((List.range len).map F).length = len := by simp
    refine ⟨some a, cap, (List.range len).map F, by rw [hcs, hlen], ?_, ?_, fun h => (by cases h), ?_⟩
    · intro h0
      rw [hlen] at h0
      obtain ⟨b, off, spot⟩ := a
      have hspot : spot = none := by simpa [Addr.add] using World.cell?_spot (hcell 0 (by omega)).1
      subst hspot
      refine ⟨b, off, rfl, fun i hi => ?_⟩
      have hi' : i < len := by rw [hlen] at hi; exact hi
      have := (hcell i (by omega)).1
      rw [Addr.add_lit, (hF i hi').1] at this
      rw [this, List.getElem_map, List.getElem_range]
    · intro r hr
      obtain ⟨i, hi, rfl⟩ := List.mem_map.1 hr
      exact ⟨(hF i (List.mem_range.1 hi)).2.1, (hF i (List.mem_range.1 hi)).2.2.1⟩
    · intro hw
      subst hx
      have hb := weigh Tryz.underlying27 hw
      have hin := weigh_in Tryz.underlying27 hw
      rw [bytesI] at hb
      simp only [List.length_map, List.length_range, reachBytes] at hb
      refine ⟨by rw [hlen]; omega, fun r hr => ?_⟩
      obtain ⟨i, hi, rfl⟩ := List.mem_map.1 hr
      exact (hF i (List.mem_range.1 hi)).2.2.2 (hin _ (List.mem_map.2 ⟨i, hi, rfl⟩))
end

theorem in_trace {H : Type} {enc : TypeId × Value → H} {W : World} {r : Reach} {b0 base : Nat} {sp : Nat → Bool} {held : Bool} {v : Value} {d : DataW H} {p : List MemPlace}
    (hv : Value.okWide Tryz.prog W r b0 29 v) (h : DataW.Trod enc Tryz.prog W base sp held 29 v d p) :
    ∃ s q c rs, v = tval s q (List.length rs) c ∧ RowsAt W q rs ∧ InAt W (s :: rs) ∧ (q = none → c = 0) ∧ ((d.weights Tryz.prog 29).all (· ≤ reachBytes) = true → rs.length ≤ 5864062014800 ∧ ∀ r ∈ s :: rs, Wide r) := by
  obtain ⟨cs, rfl, hsz⟩ := okWide_struct Tryz.underlying29 hv
  obtain ⟨v0, v1, rfl⟩ := two_cells (hsz.trans cellsT)
  obtain ⟨fuel, hf⟩ := h
  simp only [Value.cells] at hf
  obtain ⟨y, m, _, hxy, _, hl, hx⟩ := DataW.trod_struct Tryz.underlying29 hf
  have hl2 : y.length = 2 := hl
  match y, hl2 with
  | [y0, y1], _ =>
    have e0 := hx 0 _ rfl
    have e1 := hx 1 _ rfl
    simp [cellsI] at e0
    simp [cellsR] at e1
    obtain ⟨s, rfl, s1, s2, s3⟩ := in_row e0
    obtain ⟨a1, c1, rs, rfl, H1, H2, H3, H4⟩ := in_rows e1
    have hd : d = .agg [y0.1, y1.1] := by simpa using congrArg Prod.fst hxy
    refine ⟨s, a1, c1, rs, rfl, H1, fun r hr => ?_, H3, fun hs => ?_⟩
    · rcases List.mem_cons.1 hr with rfl | hr
      · exact ⟨s1, s2⟩
      · exact H2 r hr
    · rw [hd] at hs
      simp only [DataW.weights, Tryz.underlying29, List.map_cons, List.map_nil, DataW.weightsEach, List.all_append, Bool.and_eq_true] at hs
      refine ⟨(H4 hs.2.1).1, fun r hr => ?_⟩
      rcases List.mem_cons.1 hr with rfl | hr
      · exact s3 hs.1
      · exact (H4 hs.2.1).2 r hr

/-- The wrap of a law with listed variables, the world's shape kept. -/
theorem handed_shaped {H : Type} {enc : TypeId × Value → H} {a : Assume} {C : Checked} {os : Os} {f : FuncId} {fn : Func} {s : ChangeSpec} {conds : List PathCond} {apart fresh handsOn again : Bool} {X : World → Array Value → Prop}
    (hX : ∀ (w w' : World) (args : Array Value), w.heap = w'.heap → X w args → X w' args)
    (own : ownKnob C.prog.godebug = none) (started : os.Started) (noInit : C.prog.inits.idxOf? f = none) (hfn : C.prog.funcs[f]? = some fn)
    (witness : ∃ (w : World) (tape : Tape) (i : Input), w.os = os ∧ (w.forCall tape i).Shaped C.prog ∧ i.vars = [] ∧ Input.okWide C.prog (w.forCall tape i) .any w.heap.size f i ∧
      ((s.pre enc C.prog fn conds apart (w.forCall tape i).memory i.args ∧ X (w.forCall tape i).memory i.args) ∧ sizedMet enc C.prog fn (OpenSpec.ofChange s) apart (w.forCall tape i).memory i.args) ∧ a.holds C.prog (lone (Frame.enter C.prog f i.args .normal) [] (w.forCall tape i)))
    (contract : ∀ (W : World) (base : Nat) (args : Array Value) (ds gs : List (DataW H)) (before : List MemPlace),
      (∀ (j : Nat) t v, fn.params[j]? = some t → args[j]? = some v → Value.okWide C.prog W .any base t v) →
      DataW.Whole enc C.prog fn.params.toList s.vars apart W args.toList ds gs before →
      (DataW.weightsEach C.prog (fn.params.toList ++ s.plain.varTypes C.prog) (ds ++ gs)).all (· ≤ reachBytes) = true → X W args → W.ShapedOpen C.prog →
      Calls C.prog f args W fun e W' => ∃ v, e = .returned v ∧ s.post enc C.prog fn apart fresh handsOn again W args v W') :
    ReturnsInHanded a C os f .any (fun w args => (s.pre enc C.prog fn conds apart w args ∧ X w args) ∧ sizedMet enc C.prog fn (OpenSpec.ofChange s) apart w args) (s.post enc C.prog fn apart fresh handsOn again) := by
  refine returnsInHanded_of_calls own started noInit witness ?_
  intro w tape i _ hsh _ hok hpre _
  obtain ⟨_, _, _, fn', hfn', _, _, _, _, hval⟩ := hok
  obtain rfl : fn' = fn := Option.some.inj (hfn'.symm.trans hfn)
  obtain ⟨⟨⟨ds, gs, before, hw, _⟩, hx⟩, hz⟩ := hpre
  refine (contract (w.forCall tape i) w.heap.size i.args ds gs before hval (DataW.Whole.of_heap (w' := w.forCall tape i) (by rfl) hw) (hz.weights hw) (hX _ _ _ (by rfl) hx) hsh).mono fun e W' ⟨v, he, hp⟩ => ?_
  subst he
  exact ChangeSpec.post_blind hp

theorem maxLen_cell {w : World} (h : w.ShapedOpen Tryz.prog) : ∃ m, w.cell? ⟨1, 0, none⟩ = some (.int .i64 m) :=
  cell_of_shapedOpen_int (t := 3) (zero := #[.int .i64 0]) h (by decide +kernel) (by kernel_rfl) (by kernel_rfl) (by kernel_rfl) (by kernel_rfl) Tryz.underlying3
end Go.Proofs.YtfobcnhibhbbaaaGreatDoor

namespace Go.Proofs.YtfobcnhibhbbaaaGreatDoor.Ev.Xp
open Go.ChangeShapes Go.WideShapes Go.ChangeAt Go.RowKit Go.Deep
set_option maxRecDepth 100000

section
variable {H : Type} {enc : TypeId × Value → H} {W : World} {base : Nat} {sp : Nat → Bool} {held : Bool} {fuel : Nat} {v : Value} {x : DataW H × List MemPlace}
theorem in_listS (h : DataW.trod enc Tryz.prog W base sp held fuel 24 [v] = some x) : ∃ l, SL W v l := by
  obtain ⟨p, c, l, hv, _, hI, _, h1, h2⟩ := in_intsC h
  exact ⟨l, p, c, hv, hI, h1, h2⟩
theorem in_rowsS (h : DataW.trod enc Tryz.prog W base sp held fuel 27 [v] = some x) :
    ∃ p c L, v = .slice p (List.length L) c ∧ RowsS W p L ∧ ∀ r ∈ L, r.length ≤ maxLen := by
  rcases open_slice1 Tryz.underlying27 cellsI h with ⟨hcs, hx⟩ | ⟨a, len, cap, m, n, V, D, Pl, hcs, _, hl, hm, hmm, hx, hcell⟩
  · simp at hcs
    exact ⟨none, 0, [], hcs, fun h => by simp at h, fun r hr => by simp at hr⟩
  · simp at hcs
    have hlm : len ≤ m := by rw [hmm]; split <;> omega
    have hinh : Inhabited (List Int) := ⟨[]⟩
    obtain ⟨F, hF⟩ := choose_lt (α := List Int) (n := len) (p := fun i l => SL W (V i) l) (fun i hi => in_listS (hcell i (by omega)).2)
    have hlen : ((List.range len).map F).length = len := by simp
    refine ⟨some a, cap, (List.range len).map F, by rw [hcs, hlen], ?_, ?_⟩
    · intro h0
      rw [hlen] at h0
      obtain ⟨b, off, spot⟩ := a
      have hspot : spot = none := by simpa [Addr.add] using World.cell?_spot (hcell 0 (by omega)).1
      subst hspot
      refine ⟨b, off, rfl, fun i hi => ?_⟩
      have hi' : i < len := by rw [hlen] at hi; exact hi
      have := (hcell i (by omega)).1
      rw [Addr.add_lit] at this
      rw [List.getElem_map, List.getElem_range]
      have hs := hF i hi'
      obtain ⟨q, c, hv, hr⟩ := hs
      refine ⟨q, c, ?_, q, c, rfl, hr⟩
      rw [this, hv]
    · intro r hr
      obtain ⟨i, hi, rfl⟩ := List.mem_map.1 hr
      exact SL_le (hF i (List.mem_range.1 hi))
end
theorem in_traceS {H : Type} {enc : TypeId × Value → H} {W : World} {r : Go.Reach} {b0 base : Nat} {sp : Nat → Bool} {held : Bool} {v : Value} {d : DataW H} {p : List MemPlace}
    (hv : Value.okWide Tryz.prog W r b0 29 v) (h : DataW.Trod enc Tryz.prog W base sp held 29 v d p) :
    ∃ sp st sc rp rc L, v = .agg #[.slice sp (List.length st) sc, .slice rp (List.length L) rc] ∧ SL W (.slice sp (List.length st) sc) st ∧ RowsS W rp L ∧ ∀ r ∈ L, r.length ≤ maxLen := by
  obtain ⟨cs, rfl, hsz⟩ := okWide_struct Tryz.underlying29 hv
  obtain ⟨v0, v1, rfl⟩ := two_cells (hsz.trans cellsT)
  obtain ⟨fuel, hf⟩ := h
  simp only [Value.cells] at hf
  obtain ⟨y, m, _, hxy, _, hl, hx⟩ := DataW.trod_struct Tryz.underlying29 hf
  have hl2 : y.length = 2 := hl
  match y, hl2 with
  | [y0, y1], _ =>
    have e0 := hx 0 _ rfl
    have e1 := hx 1 _ rfl
    simp [cellsI] at e0
    simp [cellsR] at e1
    obtain ⟨st, sp, sc, rfl, s1⟩ := in_listS e0
    obtain ⟨rp, rc, L, rfl, H1, H2⟩ := in_rowsS e1
    exact ⟨sp, st, sc, rp, rc, L, rfl, ⟨sp, sc, rfl, s1⟩, H1, H2⟩
end Go.Proofs.YtfobcnhibhbbaaaGreatDoor.Ev.Xp
