/- trace.Bad and trace.Check at the model that turns round. -/
import Derived.Test.YtfobcnhibhbbaaaGreatDoorHu
namespace Go.Proofs.YtfobcnhibhbbaaaGreatDoor
open Go.RowKit
set_option maxRecDepth 100000

set_option maxHeartbeats 1000000 in
theorem bad1_any (v : Value) (b x : Bool) (h l : Nat) (hne : h ≠ l) (w : World) (hh : w.heap[h]? = some (.cells #[.bool true] 4 (0, 0))) (hl : w.heap[l]? = some (.cells #[.bool x] 4 (0, 0))) :
    Calls Tryz.prog 17 #[v, .bool true, .bool b, .pointer (some ⟨h, 0, none⟩), .pointer (some ⟨l, 0, none⟩)] w fun e w' => e = .returned (.tuple #[]) ∧ w' = (w.setCell ⟨h, 0, none⟩ (.bool true)).setCell ⟨l, 0, none⟩ (.bool b) := by
  have c0 : w.cell? ⟨h, 0, none⟩ = some (.bool true) := by rw [Lib.cell_of_heap hh]; rfl
  have c1 : w.cell? ⟨l, 0, none⟩ = some (.bool x) := by rw [Lib.cell_of_heap hl]; rfl
  have f0 : w.frozen? ⟨h, 0, none⟩ = false := Lib.frozen_of_heap hh 0
  have f1 : w.frozen? ⟨l, 0, none⟩ = false := Lib.frozen_of_heap hl 0
  have c2 : (w.setCell ⟨h, 0, none⟩ (.bool true)).cell? ⟨l, 0, none⟩ = some (.bool x) := by rw [World.cell?_setCell_other _ _ _ _ (by simp)]; exact c1
  clear hh hl
  go_enter Tryz.func17, Tryz.ntmps17
  go_wp2
  go_end0
  exact ⟨rfl, rfl⟩
set_option maxHeartbeats 1000000 in
theorem check1_any (v : Value) (b : Bool) (w : World) : Calls Tryz.prog 25 #[v, .bool true, .bool b] w fun e w' => e = .returned (.tuple #[]) ∧ w' = w := by
  go_enter Tryz.func25, Tryz.ntmps25
  go_wp2
  go_end0
  exact ⟨rfl, rfl⟩

def BadJ (h l : Nat) (k : Nat) (w : World) : Prop := w.heap[h]? = some (.cells #[.bool true] 4 (0, 0)) ∧ w.heap[l]? = some (.cells #[.bool (k == 2)] 4 (0, 0))
theorem bad_looks {w0 w : World} {h l : Nat} (hne : h ≠ l) (h0 : w0.heap.size ≤ h) (l0 : w0.heap.size ≤ l) (h1 : h < w.heap.size) (l1 : l < w.heap.size) :
    Looks 17 w0 w (BadJ h l) (fun v b => #[v, .bool true, .bool b, .pointer (some ⟨h, 0, none⟩), .pointer (some ⟨l, 0, none⟩)]) := by
  refine ⟨fun k w1 w2 hj hb => ⟨(hb.block _ h1).trans hj.1, (hb.block _ l1).trans hj.2⟩, fun k wr v hk hsz hj => ?_⟩
  refine (bad1_any v (k == 1) (k == 2) h l hne wr hj.1 hj.2).mono ?_
  rintro e w' ⟨rfl, rfl⟩
  have c0 : wr.cell? ⟨h, 0, none⟩ = some (.bool true) := by rw [Lib.cell_of_heap hj.1]; rfl
  have c1 : wr.cell? ⟨l, 0, none⟩ = some (.bool (k == 2)) := by rw [Lib.cell_of_heap hj.2]; rfl
  have e1 : (wr.setCell ⟨h, 0, none⟩ (.bool true)).heap[h]? = some (.cells #[.bool true] 4 (0, 0)) := by rw [heap_setCell_same _ _ _ _ _ _ hj.1]; rfl
  have e2 : (wr.setCell ⟨h, 0, none⟩ (.bool true)).heap[l]? = some (.cells #[.bool (k == 2)] 4 (0, 0)) := by rw [heap_setCell_other _ _ _ _ (by simpa using hne.symm)]; exact hj.2
  refine ⟨rfl, ⟨?_, ?_⟩, ((Below.refl _ _).setCell h0 _).setCell l0 _, fun g hg => ?_, fun a n ha => ?_⟩
  · rw [heap_setCell_other _ _ _ _ (by simpa using hne)]; exact e1
  · rw [heap_setCell_same _ _ _ _ _ _ e2]
    have : (k == 1) = (k + 1 == 2) := by rw [Bool.eq_iff_iff]; simp
    rw [this]
    rfl
  · rw [heap_setCell_other _ _ _ _ (by simp; omega), heap_setCell_other _ _ _ _ (by simp; omega)]
  · rw [World.cell?_setCell_other _ _ _ _ ?_, World.cell?_setCell_other _ _ _ _ ?_]
    · exact ha
    · rintro rfl
      rw [c0] at ha
      cases ha
    · rintro rfl
      rw [c1] at ha
      cases ha
theorem check_looks {w0 w : World} : Looks 25 w0 w (fun _ _ => True) (fun v b => #[v, .bool true, .bool b]) :=
  ⟨fun _ _ _ _ _ => trivial, fun k wr v _ _ _ => (check1_any v (k == 1) wr).mono fun e w' ⟨h1, h2⟩ => by
    subst h2
    exact ⟨h1, trivial, Below.refl _ _, fun _ _ => rfl, fun _ _ h => h⟩⟩

set_option maxHeartbeats 4000000 in
theorem bad_tg (B0 B1 B2 B3 : Nat) (sp rp : Option Addr) (sc rc : Nat) (w : World) (h0 : TgAt w B0 B1 B2 B3) (hS0 : Ev.SL w (.slice sp 1 sc) [0]) (hR0 : RowsAt w rp [nilRow, nilRow]) :
    Calls Tryz.prog 7 #[mtg B0 B1 B2 B3, .agg #[.slice sp 1 sc, .slice rp 2 rc]] w fun e w' => e = .returned (.tuple #[.bool true, .int .i64 0]) ∧ Below w.heap.size w w' := by
  have hmf : ∀ (fn : Fn) (first cap : Array Value) (w : World), (Instr.makeFunc fn first cap).run Tryz.prog w = .ok (.func fn first cap) w := fun _ _ _ _ => rfl
  have hbA : Below w.heap.size w ((((w.alloc (.cells #[.slice (some ⟨B0, 0, none⟩) 3 3, .slice (some ⟨B1, 0, none⟩) 1 1, .slice (some ⟨B2, 0, none⟩) 1 1, .slice (some ⟨B3, 0, none⟩) 1 1, .slice none 0 0] 26)).alloc (.cells #[.slice sp 1 sc, .slice rp 2 rc] 29)).alloc (.cells #[.bool true] 4)).alloc (.cells #[.bool false] 4)) := bal (bal (bal (bal (Below.refl _ _) _) _) _) _
  have hJ : BadJ (w.heap.size + 1 + 1) (w.heap.size + 1 + 1 + 1) 0 ((((w.alloc (.cells #[.slice (some ⟨B0, 0, none⟩) 3 3, .slice (some ⟨B1, 0, none⟩) 1 1, .slice (some ⟨B2, 0, none⟩) 1 1, .slice (some ⟨B3, 0, none⟩) 1 1, .slice none 0 0] 26)).alloc (.cells #[.slice sp 1 sc, .slice rp 2 rc] 29)).alloc (.cells #[.bool true] 4)).alloc (.cells #[.bool false] 4)) := by
    constructor
    · refine (Below.heap_alloc _ _ _ (by simp)).trans ?_
      have := heap_alloc_new ((w.alloc (.cells #[.slice (some ⟨B0, 0, none⟩) 3 3, .slice (some ⟨B1, 0, none⟩) 1 1, .slice (some ⟨B2, 0, none⟩) 1 1, .slice (some ⟨B3, 0, none⟩) 1 1, .slice none 0 0] 26)).alloc (.cells #[.slice sp 1 sc, .slice rp 2 rc] 29)) (.cells #[.bool true] 4)
      rw [World.size_alloc, World.size_alloc] at this
      exact this
    · have := heap_alloc_new (((w.alloc (.cells #[.slice (some ⟨B0, 0, none⟩) 3 3, .slice (some ⟨B1, 0, none⟩) 1 1, .slice (some ⟨B2, 0, none⟩) 1 1, .slice (some ⟨B3, 0, none⟩) 1 1, .slice none 0 0] 26)).alloc (.cells #[.slice sp 1 sc, .slice rp 2 rc] 29)).alloc (.cells #[.bool true] 4)) (.cells #[.bool false] 4)
      rw [World.size_alloc, World.size_alloc, World.size_alloc] at this
      exact this
  have HW := hide (walk33_tg (.pointer (some ⟨w.heap.size + 1 + 1, 0, none⟩)) (.pointer (some ⟨w.heap.size + 1 + 1 + 1, 0, none⟩)) B0 B1 B2 B3 sp rp sc rc (BadJ (w.heap.size + 1 + 1) (w.heap.size + 1 + 1 + 1)) w _ h0 hS0 hR0 hbA hJ (bad_looks (by omega) (by omega) (by omega) (by simp) (by simp)))
  clear hbA hJ h0 hS0 hR0
  go_enter Tryz.func7, Tryz.ntmps7
  go_wp2_with fail
  refine HW.out.mono ?_
  rintro e w1 ⟨rfl, ⟨hj1, hj2⟩, hb1⟩
  have c0 : w1.cell? ⟨w.heap.size + 1 + 1, 0, none⟩ = some (.bool true) := by rw [Lib.cell_of_heap hj1]; rfl
  have c1 : w1.cell? ⟨w.heap.size + 1 + 1 + 1, 0, none⟩ = some (.bool true) := by rw [Lib.cell_of_heap hj2]; rfl
  have HB1 := hide hb1
  clear hj1 hj2 hb1 HW
  go_wp2
  go_ret2
  exact ⟨rfl, HB1.out⟩

set_option maxHeartbeats 4000000 in
theorem check_tg (B0 B1 B2 B3 : Nat) (sp rp : Option Addr) (sc rc : Nat) (w : World) (h0 : TgAt w B0 B1 B2 B3) (hS0 : Ev.SL w (.slice sp 1 sc) [0]) (hR0 : RowsAt w rp [nilRow, nilRow]) :
    Calls Tryz.prog 13 #[mtg B0 B1 B2 B3, .agg #[.slice sp 1 sc, .slice rp 2 rc]] w fun e w' => e = .returned (.int .i64 0) ∧ Below w.heap.size w w' := by
  have hbA : Below w.heap.size w ((w.alloc (.cells #[.slice (some ⟨B0, 0, none⟩) 3 3, .slice (some ⟨B1, 0, none⟩) 1 1, .slice (some ⟨B2, 0, none⟩) 1 1, .slice (some ⟨B3, 0, none⟩) 1 1, .slice none 0 0] 26)).alloc (.cells #[.slice sp 1 sc, .slice rp 2 rc] 29)) := bal (bal (Below.refl _ _) _) _
  have HW := hide (walk34_tg B0 B1 B2 B3 sp rp sc rc (fun _ _ => True) w _ h0 hS0 hR0 hbA trivial check_looks)
  clear hbA h0 hS0 hR0
  go_enter Tryz.func13, Tryz.ntmps13
  go_wp2_with fail
  refine HW.out.mono ?_
  rintro e w1 ⟨rfl, _, hb1⟩
  have HB1 := hide hb1
  clear hb1 HW
  go_wp2
  go_ret
  exact ⟨rfl, HB1.out⟩
end Go.Proofs.YtfobcnhibhbbaaaGreatDoor

namespace Go.Proofs.YtfobcnhibhbbaaaGreatDoor
open Go.RowKit
set_option maxRecDepth 100000

theorem parse_tg (m : Int) (w : World) (hm : w.cell? ⟨1, 0, none⟩ = some (.int .i64 m)) :
    Calls Tryz.prog 12 #[.string tgText] w fun e w' => ∃ (s : Row) (p : Option Addr) (cap : Nat), e = .returned (.tuple #[.agg #[.slice s.at' s.ns.length s.cap, .slice p 2 cap], .int .i64 0]) ∧ Below w.heap.size w w' := by
  refine (parse_any tgText m w hm).mono ?_
  rintro e w' ⟨h, hb⟩
  unfold ParseOut at h
  rw [tg_parse] at h
  obtain ⟨s, p, cap, rws, rfl, h1, h2, _, _, _⟩ := h
  have hl : rws.length = 2 := by
    have := congrArg List.length h2
    simpa using this
  rw [hl]
  exact ⟨s, p, cap, rfl, hb⟩

set_option maxHeartbeats 8000000 in
theorem traceBegun_any (m : Int) (w : World) (hm : w.cell? ⟨1, 0, none⟩ = some (.int .i64 m)) (htab : Lib.TabIs Tryz.prog w "internal/strconv.uint64pow10" .u64 Lib.pow10Tab) :
    Calls Tryz.prog 5 #[] w fun e w' => e = .returned (.bool true) ∧ Below w.heap.size w w' := by
  have HM := hide (fun (w' : World) (hb : Below w.heap.size w w') => cell_later hb hm)
  have HT := hide (fun (w' : World) (hb : Below w.heap.size w w') => tab_later htab hb)
  have hbA : Below w.heap.size w (((w.alloc (.cells #[.int .i64 0] 3)).alloc (.cells #[.slice none 0 0, .slice none 0 0] 24)).alloc (.cells #[.slice (some ⟨w.heap.size, 0, none⟩) 1 1, .slice (some ⟨w.heap.size + 1, 0, none⟩) 2 2] 29)) := bal (bal (bal (Below.refl _ _) _) _) _
  have HA : Hid (IntsAt (((w.alloc (.cells #[.int .i64 0] 3)).alloc (.cells #[.slice none 0 0, .slice none 0 0] 24)).alloc (.cells #[.slice (some ⟨w.heap.size, 0, none⟩) 1 1, .slice (some ⟨w.heap.size + 1, 0, none⟩) 2 2] 29)) (some ⟨w.heap.size, 0, none⟩) [0]) := fun _ => ⟨w.heap.size, 0, rfl, fun i hi => by
    match i, hi with
    | 0, _ => simp [go_sem]⟩
  have HR : Hid (RowsAt (((w.alloc (.cells #[.int .i64 0] 3)).alloc (.cells #[.slice none 0 0, .slice none 0 0] 24)).alloc (.cells #[.slice (some ⟨w.heap.size, 0, none⟩) 1 1, .slice (some ⟨w.heap.size + 1, 0, none⟩) 2 2] 29)) (some ⟨w.heap.size + 1, 0, none⟩) [nilRow, nilRow]) := fun _ => ⟨w.heap.size + 1, 0, rfl, fun i hi => by
    match i, hi with
    | 0, _ => simp [go_sem, nilRow, Row.v]
    | 1, _ => simp [go_sem, nilRow, Row.v]⟩
  have HBA := hide hbA
  have q0 : (((w.alloc (.cells #[.int .i64 0] 3)).alloc (.cells #[.slice none 0 0, .slice none 0 0] 24)).alloc (.cells #[.slice (some ⟨w.heap.size, 0, none⟩) 1 1, .slice (some ⟨w.heap.size + 1, 0, none⟩) 2 2] 29)).cell? ⟨w.heap.size + 1 + 1, 0, none⟩ = some (.slice (some ⟨w.heap.size, 0, none⟩) 1 1) := by simp [go_sem]
  have q1 : (((w.alloc (.cells #[.int .i64 0] 3)).alloc (.cells #[.slice none 0 0, .slice none 0 0] 24)).alloc (.cells #[.slice (some ⟨w.heap.size, 0, none⟩) 1 1, .slice (some ⟨w.heap.size + 1, 0, none⟩) 2 2] 29)).cell? ⟨w.heap.size + 1 + 1, 1, none⟩ = some (.slice (some ⟨w.heap.size + 1, 0, none⟩) 2 2) := by simp [go_sem]
  clear hm htab hbA
  go_enter Tryz.func5, Tryz.ntmps5
  go_wp2
  generalize hW : (((w.alloc (.cells #[.int .i64 0] 3)).alloc (.cells #[.slice none 0 0, .slice none 0 0] 24)).alloc (.cells #[.slice (some ⟨w.heap.size, 0, none⟩) 1 1, .slice (some ⟨w.heap.size + 1, 0, none⟩) 2 2] 29)) = W at *
  clear hW
  have HSL : Hid (∀ w' : World, Below W.heap.size W w' → Ev.SL w' (.slice (some ⟨w.heap.size, 0, none⟩) 1 1) [0]) := fun w' hb => ⟨_, _, rfl, HA.out.later hb, by simp, by simp [maxLen]⟩
  have HBAD : Hid (∀ (B0 B1 B2 B3 : Nat) (w' : World), TgAt w' B0 B1 B2 B3 → Below W.heap.size W w' → Calls Tryz.prog 7 #[mtg B0 B1 B2 B3, .agg #[.slice (some ⟨w.heap.size, 0, none⟩) 1 1, .slice (some ⟨w.heap.size + 1, 0, none⟩) 2 2]] w' fun e w'' => e = .returned (.tuple #[.bool true, .int .i64 0]) ∧ Below w'.heap.size w' w'') :=
    fun B0 B1 B2 B3 w' h1 hb => bad_tg B0 B1 B2 B3 _ _ _ _ w' h1 (HSL.out w' hb) (HR.out.later hb)
  have HCHK : Hid (∀ (B0 B1 B2 B3 : Nat) (w' : World), TgAt w' B0 B1 B2 B3 → Below W.heap.size W w' → Calls Tryz.prog 13 #[mtg B0 B1 B2 B3, .agg #[.slice (some ⟨w.heap.size, 0, none⟩) 1 1, .slice (some ⟨w.heap.size + 1, 0, none⟩) 2 2]] w' fun e w'' => e = .returned (.int .i64 0) ∧ Below w'.heap.size w' w'') :=
    fun B0 B1 B2 B3 w' h1 hb => check_tg B0 B1 B2 B3 _ _ _ _ w' h1 (HSL.out w' hb) (HR.out.later hb)
  have hbd : Below W.heap.size W W.drew := (Below.refl _ W).drew
  go_region_held3 (fun w' => w'.cell? ⟨w.heap.size + 1 + 1, 0, none⟩ = some (.slice (some ⟨w.heap.size, 0, none⟩) 1 1) ∧ w'.cell? ⟨w.heap.size + 1 + 1, 1, none⟩ = some (.slice (some ⟨w.heap.size + 1, 0, none⟩) 2 2))
    (first | exact ⟨q0, q1⟩ | exact ⟨cell_later hb2 q0, cell_later hb2 q1⟩ | exact ⟨cell_later hb3 (cell_later hb2 q0), cell_later hb3 (cell_later hb2 q1)⟩ | go_keep)
    (first
      | (go_at_call 10; refine (toggle_tg _).mono ?_; rintro e w2 ⟨B0, B1, B2, B3, rfl, hTG, hb2⟩)
      | (go_at_call 7; refine (HBAD.out B0 B1 B2 B3 _ hTG (belowAl hbd hb2)).mono ?_; rintro e w3 ⟨rfl, hb3⟩))
  rename_i hHeld
  clear hHeld
  have hbW3 : Below W.heap.size W w3 := belowAl (belowAl hbd hb2) hb3
  have HBW3 := hide hbW3
  have HB3 := hide (belowAl HBA.out hbW3)
  have u0 := cell_later hbW3 q0
  have u1 := cell_later hbW3 q1
  have HPR : Hid (Calls Tryz.prog 11 #[.agg #[.slice (some ⟨w.heap.size, 0, none⟩) 1 1, .slice (some ⟨w.heap.size + 1, 0, none⟩) 2 2]] w3 fun e w' => e = .returned (.tuple #[.string tgText, .int .i64 0]) ∧ Below w3.heap.size w3 w') := by
    have h := print_any (tgRow w.heap.size) (some ⟨w.heap.size + 1, 0, none⟩) 2 [nilRow, nilRow] w3 (by simp) (HR.out.later hbW3) (fun h => by cases h) (fun r hr => by
      rcases List.mem_cons.1 hr with rfl | hr
      · exact ⟨HA.out.later hbW3, fun h => by cases h⟩
      · have hr' : r = nilRow := by simpa using hr
        subst hr'
        exact ⟨fun h => by simp [nilRow] at h, fun _ => rfl⟩) (HT.out w3 HB3.out)
    refine Calls.mono h ?_
    rintro e w' ⟨t, he, h1, _, hb⟩
    rw [tg_fit] at he h1
    have ht := h1 rfl
    rw [tg_print] at ht
    subst ht
    exact ⟨he, hb⟩
  clear hbW3 hb2 hb3 hbd HBAD q0 q1 hTG
  go_wp2_with fail
  refine HPR.out.mono ?_
  rintro e w4 ⟨rfl, hb4⟩
  have HBW4 := hide (belowAl HBW3.out hb4)
  have HB4 := hide (belowAl HB3.out hb4)
  have v0 := cell_later hb4 u0
  have v1 := cell_later hb4 u1
  have HPS := hide (parse_tg m w4 (HM.out w4 HB4.out))
  clear hb4 HBW3 HB3 u0 u1 HPR
  go_wp2_with fail
  refine HPS.out.mono ?_
  rintro e w5 ⟨xs, xp, xc, rfl, hb5⟩
  have HBW5 := hide (belowAl HBW4.out hb5)
  have HB5 := hide (belowAl HB4.out hb5)
  have x0 := cell_later hb5 v0
  have x1 := cell_later hb5 v1
  clear hb5 HBW4 HB4 v0 v1 HPS
  generalize xs.at' = xa at *
  generalize xs.ns.length = xn at *
  generalize xs.cap = xk at *
  unfold tgText
  go_wp2
  have hb6 : Below w5.heap.size w5 (w5.alloc (.cells #[.slice xa xn xk, .slice xp 2 xc] 29)) := bal (Below.refl _ _) _
  have y0 := cell_later hb6 x0
  have y1 := cell_later hb6 x1
  have y2 : (w5.alloc (.cells #[.slice xa xn xk, .slice xp 2 xc] 29)).cell? ⟨w5.heap.size, 1, none⟩ = some (.slice xp 2 xc) := by simp [go_sem]
  have HBW6 := hide (belowAl HBW5.out hb6)
  have HB6 := hide (belowAl HB5.out hb6)
  generalize w5.alloc (.cells #[.slice xa xn xk, .slice xp 2 xc] 29) = w6 at *
  clear hb6 x0 x1 HBW5 HB5
  generalize w5.heap.size = G at *
  have hbd : Below w6.heap.size w6 w6.drew := (Below.refl _ w6).drew
  go_region_held3 (fun w' => w'.cell? ⟨w.heap.size + 1 + 1, 0, none⟩ = some (.slice (some ⟨w.heap.size, 0, none⟩) 1 1) ∧ w'.cell? ⟨w.heap.size + 1 + 1, 1, none⟩ = some (.slice (some ⟨w.heap.size + 1, 0, none⟩) 2 2) ∧ w'.cell? ⟨G, 1, none⟩ = some (.slice xp 2 xc))
    (first | exact ⟨y0, y1, y2⟩ | exact ⟨cell_later hb7 y0, cell_later hb7 y1, cell_later hb7 y2⟩ | exact ⟨cell_later hb8 (cell_later hb7 y0), cell_later hb8 (cell_later hb7 y1), cell_later hb8 (cell_later hb7 y2)⟩ | go_keep)
    (first
      | (go_at_call 10; refine (toggle_tg _).mono ?_; rintro e w7 ⟨D0, D1, D2, D3, rfl, hTG, hb7⟩)
      | (go_at_call 13; refine (HCHK.out D0 D1 D2 D3 _ hTG (belowAl HBW6.out (belowAl hbd hb7))).mono ?_; rintro e w8 ⟨rfl, hb8⟩))
  rename_i hHeld
  clear hHeld
  have HB8 := hide (belowAl HB6.out (belowAl (belowAl hbd hb7) hb8))
  clear hb7 hb8 hbd hTG
  go_wp2
  go_ret
  exact ⟨rfl, HB8.out⟩
end Go.Proofs.YtfobcnhibhbbaaaGreatDoor
