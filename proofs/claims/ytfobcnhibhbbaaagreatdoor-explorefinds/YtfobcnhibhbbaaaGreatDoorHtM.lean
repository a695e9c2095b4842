/- trace.Parse. -/
import Derived.Test.YtfobcnhibhbbaaaGreatDoorHrM
namespace Go.Proofs.YtfobcnhibhbbaaaGreatDoor
open Go.RowKit
set_option maxRecDepth 100000

def fitL (st : List Int) (ins : List (List Int)) : Int := if 41 < ins.length then 2 else if (st :: ins).any (fun l => decide (20 < l.length)) then 2 else if ((st :: ins).flatMap id).any farB then 3 else 0
theorem any_map_ns (l : List Row) : (l.map Row.ns).any (fun x => decide (20 < x.length)) = l.any longB := by
  rw [List.any_map]
  rfl
theorem flat_map_ns (l : List Row) : (l.map Row.ns).flatMap id = l.flatMap Row.ns := by
  rw [List.flatMap_map]
  rfl
theorem fitL_rows (s : Row) (l : List Row) : fitL s.ns (l.map Row.ns) = fitE s l := by
  unfold fitL fitE
  rw [List.length_map, ← List.map_cons (f := Row.ns), any_map_ns, flat_map_ns]
/-- What a text is parsed as. -/
def parseF (s : ByteArray) : Option (List Int × List (List Int)) := if 3489 < s.size then none else match readN s startB with
  | none => none
  | some st => match insN s.size (restOf s) with
    | none => none
    | some ins => if fitL st ins = 0 then some (st, ins) else none
def ParseOut (t : ByteArray) (e : Ending) (w : World) : Prop := match parseF t with
  | some (st, ins) => ∃ (s : Row) (p : Option Addr) (cap : Nat) (rws : List Row), e = .returned (.tuple #[tval s p rws.length cap, .int .i64 0]) ∧ s.ns = st ∧ rws.map Row.ns = ins ∧ RowsAt w p rws ∧ InAt w (s :: rws) ∧ (p = none → cap = 0)
  | none => e = .returned (.tuple #[.agg #[.slice none 0 0, .slice none 0 0], .int .i64 1])
theorem parseOut_no {t : ByteArray} {w : World} (h : parseF t = none) : ParseOut t (.returned (.tuple #[.agg #[.slice none 0 0, .slice none 0 0], .int .i64 1])) w := by
  unfold ParseOut
  rw [h]
theorem parseOut_yes {t : ByteArray} {s : Row} {p : Option Addr} {cap : Nat} {rws : List Row} {w : World} (h : parseF t = some (s.ns, rws.map Row.ns)) (h1 : RowsAt w p rws) (h2 : InAt w (s :: rws)) (h3 : p = none → cap = 0) : ParseOut t (.returned (.tuple #[tval s p rws.length cap, .int .i64 0])) w := by
  unfold ParseOut
  rw [h]
  exact ⟨s, p, cap, rws, rfl, rfl, rfl, h1, h2, h3⟩
theorem readOut_row {s f : ByteArray} {v : Value} {r : ByteArray} {b : Bool} {base : Nat} {w : World} (h : ReadOut s f v r b base w) : ∃ row : Row, v = row.v ∧ Ints3 w row ∧ match readN s f with
    | some ns => b = true ∧ r = restOf s ∧ row.ns = ns
    | none => b = false := by
  unfold ReadOut at h
  cases hr : readN s f with
  | none =>
    rw [hr] at h
    exact ⟨⟨none, [], 0⟩, h.2, .inl ⟨rfl, rfl, rfl⟩, h.1⟩
  | some ns =>
    rw [hr] at h
    obtain ⟨row, h1, h2, h3⟩ := ints3_of h.2.2
    exact ⟨row, h1, h3, h.1, h.2.1, h2⟩
def msr : Value → Value → Nat
  | .string s, .bool true => s.size + 1
  | _, _ => 0
/-- How far the lines have come: what is read, and what is left. -/
def Far (T0 : Option (List (List Int))) (r : ByteArray) (gd : Bool) (rws : List Row) : Prop := match gd with
  | true => ∃ f, r.size ≤ f ∧ T0 = (insN f r).map (rws.map Row.ns ++ ·)
  | false => T0 = none

theorem rows_set2 {w : World} {p : Option Addr} {cap base B : Nat} {l : List Row} (hown : w.ownsRow base 24 1 (.slice p l.length cap) l.length (l.map Row.v)) (hne : (Value.slice p l.length cap).ownBlock ≠ some B) (u v : Value) : RowsAt ((w.setCell ⟨B, 0, none⟩ u).setCell ⟨B, 1, none⟩ v) p l := by
  have h1 := ownsRow_setCell_other (a := ⟨B, 0, none⟩) hown hne u
  have h2 := ownsRow_setCell_other (a := ⟨B, 1, none⟩) h1 hne v
  obtain ⟨p', cap', h3, h4, _⟩ := owns_rows h2
  injection h3 with h3 _ _
  rw [h3]
  exact h4
theorem in_set2 {w : World} {B : Nat} {c : Array Value} {fz : Nat × Nat} {l : List Row} (hb : w.heap[B]? = some (.cells c 29 fz)) (h : ∀ r ∈ l, Ints3 w r) (u v : Value) : InAt ((w.setCell ⟨B, 0, none⟩ u).setCell ⟨B, 1, none⟩ v) l := fun r hr => by
  have hk : Lib.OthersKept 24 (some B) w ((w.setCell ⟨B, 0, none⟩ u).setCell ⟨B, 1, none⟩ v) := ((Lib.OthersKept.refl 24 (some B) w).setCell ⟨B, 0, none⟩ rfl _).setCell ⟨B, 1, none⟩ rfl _
  exact ((h r hr).kept hk (fun c' fz' e => by rw [hb] at e; simp at e)).ints

theorem far_step {T0 : Option (List (List Int))} {r r2 : ByteArray} {b2 : Bool} {rws : List Row} {q : Row} (h : Far T0 r true rws) (h0 : r.size ≠ 0) (hr : match readN r inB with
    | some ns => b2 = true ∧ r2 = restOf r ∧ q.ns = ns
    | none => b2 = false) : Far T0 r2 b2 (rws ++ [q]) ∧ (b2 = true → r2.size < r.size) := by
  obtain ⟨f, hf, hT⟩ := h
  obtain ⟨g, rfl⟩ : ∃ g, f = g + 1 := ⟨f - 1, by omega⟩
  cases hn : readN r inB with
  | none =>
    rw [hn] at hr
    have hr' : b2 = false := hr
    subst hr'
    rw [insN_none g h0 hn] at hT
    exact ⟨hT, fun h => by cases h⟩
  | some ns =>
    rw [hn] at hr
    obtain ⟨rfl, rfl, h3⟩ := hr
    have hlt := restOf_lt h0 (readN_ends hn)
    rw [insN_some g h0 hn] at hT
    refine ⟨⟨g, by omega, ?_⟩, fun _ => hlt⟩
    rw [hT, Option.map_map, List.map_append, ← h3]
    congr 1
    funext l
    simp
theorem msr_lt {r r2 : ByteArray} {b2 : Bool} (h : b2 = true → r2.size < r.size) : msr (.string r2) (.bool b2) < msr (.string r) (.bool true) := by
  cases b2
  · simp [msr]
  · have := h rfl
    simp only [msr]
    omega

set_option maxHeartbeats 8000000 in
theorem parse_any (t : ByteArray) (m : Int) (w : World) (hm : w.cell? ⟨1, 0, none⟩ = some (.int .i64 m)) :
    Calls Tryz.prog 12 #[.string t] w fun e w' => ParseOut t e w' ∧ Below w.heap.size w w' := by
  by_cases hbig : 3489 < t.size
  · have HP : Hid (parseF t = none) := by unfold parseF; rw [if_pos hbig]; trivial
    have hbi : (3489 : Int) < (t.size : Int) := by omega
    go_enter Tryz.func12, Tryz.ntmps12
    go_wp2
    refine bodyPost_ret (v := .tuple #[.agg #[.slice none 0 0, .slice none 0 0], .int .i64 1]) (by simp [results, Tryz.results12, go_sem]) rfl ⟨parseOut_no HP.out, ?_⟩
    first | exact bal (Below.refl _ _) _ | exact ((bal (Below.refl _ _) _).setCell (by simp) _).setCell (by simp) _
  · have hbi : ¬ (3489 : Int) < (t.size : Int) := by omega
    have HPF : Hid (parseF t = match readN t startB with
      | none => none
      | some st => match insN t.size (restOf t) with
        | none => none
        | some ins => if fitL st ins = 0 then some (st, ins) else none) := by unfold parseF; rw [if_neg hbig]; rfl
    have HM := hide (fun (w' : World) (hb : Below w.heap.size w w') => cell_later hb hm)
    have hbA : Below w.heap.size w ((w.alloc (.cells #[.slice none 0 0, .slice none 0 0] 29)).alloc (.cells #[.slice none 0 0, .slice none 0 0] 29)) := bal (bal (Below.refl _ _) _) _
    have HP0 : Hid (Pst w ((w.alloc (.cells #[.slice none 0 0, .slice none 0 0] 29)).alloc (.cells #[.slice none 0 0, .slice none 0 0] 29)) ⟨none, [], 0⟩ (.slice none 0 0) []) := by
      refine ⟨?_, ?_, World.ownsRow_nil _ _ _ _, .inl ⟨rfl, rfl, rfl⟩, fun r hr => by simp at hr, hbA⟩
      · exact (Below.heap_alloc _ _ _ (by simp)).trans (heap_alloc_new w _)
      · have := heap_alloc_new (w.alloc (.cells #[.slice none 0 0, .slice none 0 0] 29)) (.cells #[.slice none 0 0, .slice none 0 0] 29)
        rw [World.size_alloc] at this
        exact this
    have HRL := hide (readLine_any t startB (by omega) m _ (HM.out _ hbA))
    have hst : (⟨#[115, 116, 97, 114, 116]⟩ : ByteArray) = startB := rfl
    rw [← hst] at HRL
    have HST := hide hst
    clear hst hbA hm hbig
    go_enter Tryz.func12, Tryz.ntmps12
    go_wp2_with fail
    refine HRL.out.mono ?_
    rintro e w1 ⟨v, r, b, rfl, hro, hb1⟩
    rw [HST.out] at hro
    obtain ⟨⟨ra, rn, rc⟩, hv, hi3, hrd⟩ := readOut_row hro
    have hv' : v = .slice ra rn.length rc := hv
    subst hv'
    have hp1 := HP0.out.call hb1
    have c0 : w1.cell? ⟨w.heap.size + 1, 0, none⟩ = some (.slice none 0 0) := by rw [Lib.cell_of_heap hp1.tr]; rfl
    have f0 : w1.frozen? ⟨w.heap.size + 1, 0, none⟩ = false := Lib.frozen_of_heap hp1.tr 0
    have HP1 : Hid (Pst w (w1.setCell ⟨w.heap.size + 1, 0, none⟩ (.slice ra rn.length rc)) ⟨ra, rn, rc⟩ (.slice none 0 0) []) := hp1.start hi3
    have HRO := hide hrd
    clear hro hp1 hb1 HP0 HRL HST hi3 hv hrd
    go_wp2
    clear c0 f0
    generalize w1.setCell ⟨w.heap.size + 1, 0, none⟩ (.slice ra rn.length rc) = w2 at *
    obtain ⟨T0, hfar, hrs, hpf⟩ : ∃ T0, Far T0 r b [] ∧ (b = true → r.size ≤ 3489) ∧ parseF t = (match T0 with | none => none | some ins => if fitL rn ins = 0 then some (rn, ins) else none) := by
      have h1 := HRO.out
      have h2 := HPF.out
      cases hr : readN t startB with
      | none =>
        rw [hr] at h1 h2
        have h1' : b = false := h1
        subst h1'
        exact ⟨none, rfl, fun h => (by cases h), h2⟩
      | some st =>
        rw [hr] at h1 h2
        obtain ⟨rfl, rfl, h3⟩ := h1
        have h3' : rn = st := h3
        subst h3'
        have hle := restOf_le t
        exact ⟨insN t.size (restOf t), ⟨t.size, hle, by simp⟩, fun _ => by omega, h2⟩
    have HPF2 := hide hpf
    have HF0 := hide hfar
    have HRS := hide hrs
    clear hfar hrs hpf HPF HRO
    go_loopw [0, 5] (fun s' g' wr => ∃ (r : ByteArray) (gd : Bool) (iv : Value) (rws : List Row), s' = .string r ∧ g' = .bool gd ∧ Hid (Pst w wr ⟨ra, rn, rc⟩ iv rws) ∧ Hid (Far T0 r gd rws) ∧ Hid (gd = true → rws.length + r.size ≤ 3489) ∧ Hid (rws.length ≤ 3490)) (fun s' g' _ => msr s' g')
    case atStart => exact ⟨r, b, _, [], rfl, rfl, HP1, HF0, fun h => by have := HRS.out h; simpa using this, by show _ ≤ _; simp⟩
    case round =>
      clear HP1 HF0 HRS
      obtain ⟨r, gd, iv, rws, rfl, rfl, HPS, HFA, HLE, HLN⟩ := hrel
      obtain ⟨ip, ic, hiv, hrowsat, hinil⟩ := owns_rows HPS.out.own
      subst hiv
      have c0 : wr.cell? ⟨w.heap.size + 1, 0, none⟩ = some (.slice ra rn.length rc) := by rw [Lib.cell_of_heap HPS.out.tr]; rfl
      have c1 : wr.cell? ⟨w.heap.size + 1, 1, none⟩ = some (.slice ip rws.length ic) := by rw [Lib.cell_of_heap HPS.out.tr]; rfl
      have d0 : wr.cell? ⟨w.heap.size, 0, none⟩ = some (.slice none 0 0) := by rw [Lib.cell_of_heap HPS.out.res]; rfl
      have d1 : wr.cell? ⟨w.heap.size, 1, none⟩ = some (.slice none 0 0) := by rw [Lib.cell_of_heap HPS.out.res]; rfl
      have g0 : wr.frozen? ⟨w.heap.size, 0, none⟩ = false := Lib.frozen_of_heap HPS.out.res 0
      have g1 : wr.frozen? ⟨w.heap.size, 1, none⟩ = false := Lib.frozen_of_heap HPS.out.res 1
      cases gd
      · have HX : Hid (parseF t = none) := by
          have h1 : T0 = none := HFA.out
          have h2 := HPF2.out
          rw [h1] at h2
          exact h2
        clear hrowsat
        go_wp2
        exact bodyPost_ret (v := .tuple #[.agg #[.slice none 0 0, .slice none 0 0], .int .i64 1]) (by simp [results, Tryz.results12, go_sem, d0, d1]) rfl ⟨parseOut_no HX.out, (HPS.out.bel.setCell (by simp) _).setCell (by simp) _⟩
      · by_cases hr0 : r.size = 0
        · have hre : r = ⟨#[]⟩ := by
            apply ByteArray.ext
            exact Array.size_eq_zero_iff.1 hr0
          have HX : Hid (parseF t = if fitL rn (rws.map Row.ns) = 0 then some (rn, rws.map Row.ns) else none) := by
            obtain ⟨f, _, h1⟩ := HFA.out
            rw [insN_nil f hr0] at h1
            have h2 := HPF2.out
            rw [h1] at h2
            simp at h2
            exact h2
          subst hre
          have hln := HLN.out
          have HFT := hide (fit_any ⟨ra, rn, rc⟩ ip ic rws wr (by omega) hrowsat hinil (fun q hq => by
            rcases List.mem_cons.1 hq with h | h
            · rw [h]; exact HPS.out.st.ints
            · exact (HPS.out.ins q h).ints))
          have HFL := hide (fitL_rows ⟨ra, rn, rc⟩ rws)
          have hin : InAt wr ((⟨ra, rn, rc⟩ : Row) :: rws) := (fun q hq => by
            rcases List.mem_cons.1 hq with h | h
            · rw [h]; exact HPS.out.st.ints
            · exact (HPS.out.ins q h).ints)
          have HIN := hide hin
          have HRA := hide hrowsat
          unfold tval Row.v at HFT
          simp only at HFL HFT
          rw [HFL.out] at HX
          generalize fitE ⟨ra, rn, rc⟩ rws = fe at *
          clear hin hrowsat hr0
          go_wp2_with fail
          refine HFT.out.mono ?_
          rintro e w6 ⟨rfl, hb6⟩
          have hp6 := HPS.out.call hb6
          have e0 : w6.cell? ⟨w.heap.size + 1, 0, none⟩ = some (.slice ra rn.length rc) := by rw [Lib.cell_of_heap hp6.tr]; rfl
          have e1 : w6.cell? ⟨w.heap.size + 1, 1, none⟩ = some (.slice ip rws.length ic) := by rw [Lib.cell_of_heap hp6.tr]; rfl
          have y0 : w6.cell? ⟨w.heap.size, 0, none⟩ = some (.slice none 0 0) := by rw [Lib.cell_of_heap hp6.res]; rfl
          have y1 : w6.cell? ⟨w.heap.size, 1, none⟩ = some (.slice none 0 0) := by rw [Lib.cell_of_heap hp6.res]; rfl
          have z0 : w6.frozen? ⟨w.heap.size, 0, none⟩ = false := Lib.frozen_of_heap hp6.res 0
          have z1 : w6.frozen? ⟨w.heap.size, 1, none⟩ = false := Lib.frozen_of_heap hp6.res 1
          have HP6 := hide hp6
          have HRA6 := hide (HRA.out.later hb6)
          have HIN6 := hide (HIN.out.later hb6)
          clear hb6 hp6 HFT HRA HIN HPS c0 c1 d0 d1 g0 g1
          by_cases hfe : fe = 0
          · subst hfe
            have HX2 : Hid (parseF t = some (rn, rws.map Row.ns)) := by have h := HX.out; rw [if_pos rfl] at h; exact h
            clear HX HFL
            go_wp2
            refine bodyPost_ret (v := .tuple #[tval ⟨ra, rn, rc⟩ ip rws.length ic, .int .i64 0]) (by simp [results, Tryz.results12, go_sem, y0, y1, tval, Row.v]) rfl ⟨parseOut_yes (s := ⟨ra, rn, rc⟩) HX2.out ?_ ?_ hinil, (HP6.out.bel.setCell (by simp) _).setCell (by simp) _⟩
            · exact rows_set2 HP6.out.own (Lib.ownBlock_ne HP6.out.own HP6.out.res (by decide)) _ _
            · exact in_set2 HP6.out.res (fun q hq => by
                rcases List.mem_cons.1 hq with h | h
                · rw [h]; exact HP6.out.st
                · exact HP6.out.ins q h) _ _
          · have hne : (fe != 0) = true := by simp [hfe]
            have HX2 : Hid (parseF t = none) := by have h := HX.out; rw [if_neg hfe] at h; exact h
            clear HX HFL hfe
            go_wp2
            exact bodyPost_ret (v := .tuple #[.agg #[.slice none 0 0, .slice none 0 0], .int .i64 1]) (by simp [results, Tryz.results12, go_sem, y0, y1]) rfl ⟨parseOut_no HX2.out, (HP6.out.bel.setCell (by simp) _).setCell (by simp) _⟩
        · have hq : r.toList.isEmpty = false := by
            rw [ByteArray.toList_eq]
            cases hb : r.data.toList with
            | nil =>
              exfalso
              have h2 := congrArg List.length hb
              rw [Array.length_toList] at h2
              exact hr0 h2
            | cons a l => rfl
          have hle := HLE.out rfl
          have HRL := hide (readLine_any r inB (by omega) m wr (HM.out wr HPS.out.bel))
          have hst : (⟨#[105, 110]⟩ : ByteArray) = inB := rfl
          rw [← hst] at HRL
          have HST := hide hst
          have HR0 := hide hr0
          clear d0 d1 g0 g1 c0 c1 hst hr0 hrowsat
          go_wp2_with fail
          refine HRL.out.mono ?_
          rintro e w5 ⟨v, r2, b2, rfl, hro, hb5⟩
          rw [HST.out] at hro
          obtain ⟨⟨qa, qn, qc⟩, hv, hi3, hrd⟩ := readOut_row hro
          have hv' : v = .slice qa qn.length qc := hv
          subst hv'
          have hp5 := HPS.out.call hb5
          have c1 : w5.cell? ⟨w.heap.size + 1, 1, none⟩ = some (.slice ip rws.length ic) := by rw [Lib.cell_of_heap hp5.tr]; rfl
          have HP5 := hide hp5
          have HI5 := hide hi3
          have HRD := hide hrd
          clear hro hv hi3 hrd hp5 hb5 HRL HST HPS
          have HOW : Hid ((w5.alloc (.cells #[.slice qa qn.length qc] 24)).ownsRow w.heap.size 24 1 (.slice ip rws.length ic) rws.length (rws.map Row.v)) := (HP5.out.call (bal (Below.refl _ _) _)).own
          have HR1 : Hid (RowsAt (w5.alloc (.cells #[.slice qa qn.length qc] 24)) (some ⟨w5.heap.size, 0, none⟩) [(⟨qa, qn, qc⟩ : Row)]) := fun _ => ⟨w5.heap.size, 0, rfl, fun i hi => by
            match i, hi with
            | 0, _ => simp [go_sem, Row.v]⟩
          have hln := HLN.out
          have hsz5 := HP5.out.size
          go_wp2_with (at_builtin; refine wpList_append_rows rfl _ _ rfl w.heap.size _ rws [(⟨qa, qn, qc⟩ : Row)] rfl HOW.out (some ⟨w5.heap.size, 0, none⟩) 1 rfl HR1.out (fun h => by cases h) (by simp; omega) (by simp; omega) ?_)
          intro v' w6 hown6 hg6
          have hput := HP5.out.put HI5.out (.cells #[.slice qa qn.length qc] 24) hg6 (by simpa using hown6)
          have h1 := HP5.out.call (bal (Below.refl _ _) (.cells #[.slice qa qn.length qc] 24))
          have hne := Lib.ownBlock_ne h1.own h1.tr (by decide)
          have t6 : w6.heap[w.heap.size + 1]? = some (.cells #[.slice ra rn.length rc, .slice ip rws.length ic] 29 (0, 0)) := (hg6.block _ (by simp; omega) (fun e => hne e.symm)).trans h1.tr
          have e1 : w6.cell? ⟨w.heap.size + 1, 1, none⟩ = some (.slice ip rws.length ic) := by rw [Lib.cell_of_heap t6]; rfl
          have f1 : w6.frozen? ⟨w.heap.size + 1, 1, none⟩ = false := Lib.frozen_of_heap t6 1
          obtain ⟨jp, jc, rfl, _, _⟩ := owns_rows (l := rws ++ [⟨qa, qn, qc⟩]) (by simpa using hown6)
          obtain ⟨hfar, hsm⟩ := far_step (r2 := r2) (b2 := b2) (q := ⟨qa, qn, qc⟩) HFA.out HR0.out HRD.out
          have HPT := hide hput
          have HFR := hide hfar
          have HSM := hide hsm
          have HLT := hide (show (rws ++ [(⟨qa, qn, qc⟩ : Row)]).length = rws.length + 1 by simp)
          clear hput h1 hne t6 hown6 hg6 hfar hsm HP5 HI5 HRD HFA HOW HR1 c1
          generalize rws ++ [(⟨qa, qn, qc⟩ : Row)] = rws2 at *
          generalize hnn : rws2.length = nn at *
          have HNN := hide hnn
          clear hnn
          go_wp2
          go_roundw
          case rel => exact ⟨r2, b2, _, rws2, rfl, rfl, HPT, HFR, fun h => by have h1 := HSM.out h; have h2 := HLT.out; have h3 := HNN.out; omega, by have h2 := HLT.out; have h3 := HNN.out; show _ ≤ _; omega⟩
          case measure => exact msr_lt HSM.out
end Go.Proofs.YtfobcnhibhbbaaaGreatDoor

namespace Go.Proofs.YtfobcnhibhbbaaaGreatDoor
open Go.RowKit
set_option maxRecDepth 100000

def tgText : ByteArray := ⟨#[115, 116, 97, 114, 116, 32, 48, 10, 105, 110, 10, 105, 110, 10]⟩
theorem tg_parse : parseF tgText = some ([0], [[], []]) := by kernel_rfl
def tgRow (b : Nat) : Row := ⟨some ⟨b, 0, none⟩, [0], 1⟩
def nilRow : Row := ⟨none, [], 0⟩
theorem tg_fit (b : Nat) : fitE (tgRow b) [nilRow, nilRow] = 0 := by simp [fitE, tgRow, nilRow, longB, farB]
theorem tg_print (b : Nat) : printT (tgRow b) [nilRow, nilRow] = [115, 116, 97, 114, 116, 32, 48, 10, 105, 110, 10, 105, 110, 10] := by
  show printT ⟨none, [0], 1⟩ [nilRow, nilRow] = _
  kernel_rfl
end Go.Proofs.YtfobcnhibhbbaaaGreatDoor
