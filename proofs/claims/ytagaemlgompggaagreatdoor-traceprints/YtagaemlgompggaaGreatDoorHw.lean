/- traceBegun. -/
import Derived.Test.YtagaemlgompggaaGreatDoorHv
namespace Go.Proofs.YtagaemlgompggaaGreatDoor
open Go.RowKit
set_option maxRecDepth 100000

theorem parse_tg (m : Int) (w : World) (hm : w.cell? ⟨1, 0, none⟩ = some (.int .i64 m)) :
    Calls Tryz.prog 8 #[.string tgText] w fun e w' => ∃ (s : Row) (p : Option Addr) (cap : Nat), e = .returned (.tuple #[.agg #[.slice s.at' s.ns.length s.cap, .slice p 2 cap], .int .i64 0]) ∧ Below w.heap.size w w' := by
  refine (parse_any tgText m w hm).mono ?_
  rintro e w' ⟨h, hb⟩
  unfold ParseOut at h
  rw [tg_parse] at h
  obtain ⟨s, p, cap, rws, rfl, h1, h2, _, _, _⟩ := h
  have hl : rws.length = 2 := by
    have := congrArg List.length h2
    simpa using this
  rw [hl]
  exact ⟨s, p, cap, rfl, hb⟩

set_option maxHeartbeats 8000000 in
theorem traceBegun_any (m : Int) (w : World) (hm : w.cell? ⟨1, 0, none⟩ = some (.int .i64 m)) (htab : Lib.TabIs Tryz.prog w "internal/strconv.uint64pow10" .u64 Lib.pow10Tab) :
    Calls Tryz.prog 7 #[] w fun e w' => e = .returned (.bool true) ∧ Below w.heap.size w w' := by
  have HM := hide (fun (w' : World) (hb : Below w.heap.size w w') => cell_later hb hm)
  have HT := hide (fun (w' : World) (hb : Below w.heap.size w w') => tab_later htab hb)
  have hbA : Below w.heap.size w (((w.alloc (.cells #[.int .i64 0] 3)).alloc (.cells #[.slice none 0 0, .slice none 0 0] 22)).alloc (.cells #[.slice (some ⟨w.heap.size, 0, none⟩) 1 1, .slice (some ⟨w.heap.size + 1, 0, none⟩) 2 2] 25)) := bal (bal (bal (Below.refl _ _) _) _) _
  have HA : Hid (IntsAt (((w.alloc (.cells #[.int .i64 0] 3)).alloc (.cells #[.slice none 0 0, .slice none 0 0] 22)).alloc (.cells #[.slice (some ⟨w.heap.size, 0, none⟩) 1 1, .slice (some ⟨w.heap.size + 1, 0, none⟩) 2 2] 25)) (some ⟨w.heap.size, 0, none⟩) [0]) := fun _ => ⟨w.heap.size, 0, rfl, fun i hi => by
    match i, hi with
    | 0, _ => simp [go_sem]⟩
  have HR : Hid (RowsAt (((w.alloc (.cells #[.int .i64 0] 3)).alloc (.cells #[.slice none 0 0, .slice none 0 0] 22)).alloc (.cells #[.slice (some ⟨w.heap.size, 0, none⟩) 1 1, .slice (some ⟨w.heap.size + 1, 0, none⟩) 2 2] 25)) (some ⟨w.heap.size + 1, 0, none⟩) [nilRow, nilRow]) := fun _ => ⟨w.heap.size + 1, 0, rfl, fun i hi => by
    match i, hi with
    | 0, _ => simp [go_sem, nilRow, Row.v]
    | 1, _ => simp [go_sem, nilRow, Row.v]⟩
  have HBA := hide hbA
  have q0 : (((w.alloc (.cells #[.int .i64 0] 3)).alloc (.cells #[.slice none 0 0, .slice none 0 0] 22)).alloc (.cells #[.slice (some ⟨w.heap.size, 0, none⟩) 1 1, .slice (some ⟨w.heap.size + 1, 0, none⟩) 2 2] 25)).cell? ⟨w.heap.size + 1 + 1, 0, none⟩ = some (.slice (some ⟨w.heap.size, 0, none⟩) 1 1) := by simp [go_sem]
  have q1 : (((w.alloc (.cells #[.int .i64 0] 3)).alloc (.cells #[.slice none 0 0, .slice none 0 0] 22)).alloc (.cells #[.slice (some ⟨w.heap.size, 0, none⟩) 1 1, .slice (some ⟨w.heap.size + 1, 0, none⟩) 2 2] 25)).cell? ⟨w.heap.size + 1 + 1, 1, none⟩ = some (.slice (some ⟨w.heap.size + 1, 0, none⟩) 2 2) := by simp [go_sem]
  clear hm htab hbA
  go_enter Tryz.func7, Tryz.ntmps7
  go_wp2
  generalize hW : (((w.alloc (.cells #[.int .i64 0] 3)).alloc (.cells #[.slice none 0 0, .slice none 0 0] 22)).alloc (.cells #[.slice (some ⟨w.heap.size, 0, none⟩) 1 1, .slice (some ⟨w.heap.size + 1, 0, none⟩) 2 2] 25)) = W at *
  clear hW
  have HSL : Hid (∀ w' : World, Below W.heap.size W w' → Ev.SL w' (.slice (some ⟨w.heap.size, 0, none⟩) 1 1) [0]) := fun w' hb => ⟨_, _, rfl, HA.out.later hb, by simp, by simp [maxLen]⟩
  have HBAD : Hid (∀ (B0 B1 B2 B3 : Nat) (w' : World), TgAt w' B0 B1 B2 B3 → Below W.heap.size W w' → Calls Tryz.prog 16 #[mtg B0 B1 B2 B3, .agg #[.slice (some ⟨w.heap.size, 0, none⟩) 1 1, .slice (some ⟨w.heap.size + 1, 0, none⟩) 2 2]] w' fun e w'' => e = .returned (.tuple #[.bool true, .int .i64 0]) ∧ Below w'.heap.size w' w'') :=
    fun B0 B1 B2 B3 w' h1 hb => bad_tg B0 B1 B2 B3 _ _ _ _ w' h1 (HSL.out w' hb) (HR.out.later hb)
  have HCHK : Hid (∀ (B0 B1 B2 B3 : Nat) (w' : World), TgAt w' B0 B1 B2 B3 → Below W.heap.size W w' → Calls Tryz.prog 18 #[mtg B0 B1 B2 B3, .agg #[.slice (some ⟨w.heap.size, 0, none⟩) 1 1, .slice (some ⟨w.heap.size + 1, 0, none⟩) 2 2]] w' fun e w'' => e = .returned (.int .i64 0) ∧ Below w'.heap.size w' w'') :=
    fun B0 B1 B2 B3 w' h1 hb => check_tg B0 B1 B2 B3 _ _ _ _ w' h1 (HSL.out w' hb) (HR.out.later hb)
  have hbd : Below W.heap.size W W.drew := (Below.refl _ W).drew
  go_region_held3 (fun w' => w'.cell? ⟨w.heap.size + 1 + 1, 0, none⟩ = some (.slice (some ⟨w.heap.size, 0, none⟩) 1 1) ∧ w'.cell? ⟨w.heap.size + 1 + 1, 1, none⟩ = some (.slice (some ⟨w.heap.size + 1, 0, none⟩) 2 2))
    (first | exact ⟨q0, q1⟩ | exact ⟨cell_later hb2 q0, cell_later hb2 q1⟩ | exact ⟨cell_later hb3 (cell_later hb2 q0), cell_later hb3 (cell_later hb2 q1)⟩ | go_keep)
    (first
      | (go_at_call 17; refine (toggle_tg _).mono ?_; rintro e w2 ⟨B0, B1, B2, B3, rfl, hTG, hb2⟩)
      | (go_at_call 16; refine (HBAD.out B0 B1 B2 B3 _ hTG (belowAl hbd hb2)).mono ?_; rintro e w3 ⟨rfl, hb3⟩))
  rename_i hHeld
  clear hHeld
  have hbW3 : Below W.heap.size W w3 := belowAl (belowAl hbd hb2) hb3
  have HBW3 := hide hbW3
  have HB3 := hide (belowAl HBA.out hbW3)
  have u0 := cell_later hbW3 q0
  have u1 := cell_later hbW3 q1
  have HPR : Hid (Calls Tryz.prog 5 #[.agg #[.slice (some ⟨w.heap.size, 0, none⟩) 1 1, .slice (some ⟨w.heap.size + 1, 0, none⟩) 2 2]] w3 fun e w' => e = .returned (.tuple #[.string tgText, .int .i64 0]) ∧ Below w3.heap.size w3 w') := by
    have h := print_any (tgRow w.heap.size) (some ⟨w.heap.size + 1, 0, none⟩) 2 [nilRow, nilRow] w3 (by simp) (HR.out.later hbW3) (fun h => by cases h) (fun r hr => by
      rcases List.mem_cons.1 hr with rfl | hr
      · exact ⟨HA.out.later hbW3, fun h => by cases h⟩
      · have hr' : r = nilRow := by simpa using hr
        subst hr'
        exact ⟨fun h => by simp [nilRow] at h, fun _ => rfl⟩) (HT.out w3 HB3.out)
    refine Calls.mono h ?_
    rintro e w' ⟨t, he, h1, _, hb⟩
    rw [tg_fit] at he h1
    have ht := h1 rfl
    rw [tg_print] at ht
    subst ht
    exact ⟨he, hb⟩
  clear hbW3 hb2 hb3 hbd HBAD q0 q1 hTG
  go_wp2_with fail
  refine HPR.out.mono ?_
  rintro e w4 ⟨rfl, hb4⟩
  have HBW4 := hide (belowAl HBW3.out hb4)
  have HB4 := hide (belowAl HB3.out hb4)
  have v0 := cell_later hb4 u0
  have v1 := cell_later hb4 u1
  have HPS := hide (parse_tg m w4 (HM.out w4 HB4.out))
  clear hb4 HBW3 HB3 u0 u1 HPR
  go_wp2_with fail
  refine HPS.out.mono ?_
  rintro e w5 ⟨xs, xp, xc, rfl, hb5⟩
  have HBW5 := hide (belowAl HBW4.out hb5)
  have HB5 := hide (belowAl HB4.out hb5)
  have x0 := cell_later hb5 v0
  have x1 := cell_later hb5 v1
  clear hb5 HBW4 HB4 v0 v1 HPS
  generalize xs.at' = xa at *
  generalize xs.ns.length = xn at *
  generalize xs.cap = xk at *
  unfold tgText
  go_wp2
  have hb6 : Below w5.heap.size w5 (w5.alloc (.cells #[.slice xa xn xk, .slice xp 2 xc] 25)) := bal (Below.refl _ _) _
  have y0 := cell_later hb6 x0
  have y1 := cell_later hb6 x1
  have y2 : (w5.alloc (.cells #[.slice xa xn xk, .slice xp 2 xc] 25)).cell? ⟨w5.heap.size, 1, none⟩ = some (.slice xp 2 xc) := by simp [go_sem]
  have HBW6 := hide (belowAl HBW5.out hb6)
  have HB6 := hide (belowAl HB5.out hb6)
  generalize w5.alloc (.cells #[.slice xa xn xk, .slice xp 2 xc] 25) = w6 at *
  clear hb6 x0 x1 HBW5 HB5
  generalize w5.heap.size = G at *
  have hbd : Below w6.heap.size w6 w6.drew := (Below.refl _ w6).drew
  go_region_held3 (fun w' => w'.cell? ⟨w.heap.size + 1 + 1, 0, none⟩ = some (.slice (some ⟨w.heap.size, 0, none⟩) 1 1) ∧ w'.cell? ⟨w.heap.size + 1 + 1, 1, none⟩ = some (.slice (some ⟨w.heap.size + 1, 0, none⟩) 2 2) ∧ w'.cell? ⟨G, 1, none⟩ = some (.slice xp 2 xc))
    (first | exact ⟨y0, y1, y2⟩ | exact ⟨cell_later hb7 y0, cell_later hb7 y1, cell_later hb7 y2⟩ | exact ⟨cell_later hb8 (cell_later hb7 y0), cell_later hb8 (cell_later hb7 y1), cell_later hb8 (cell_later hb7 y2)⟩ | go_keep)
    (first
      | (go_at_call 17; refine (toggle_tg _).mono ?_; rintro e w7 ⟨D0, D1, D2, D3, rfl, hTG, hb7⟩)
      | (go_at_call 18; refine (HCHK.out D0 D1 D2 D3 _ hTG (belowAl HBW6.out (belowAl hbd hb7))).mono ?_; rintro e w8 ⟨rfl, hb8⟩))
  rename_i hHeld
  clear hHeld
  have HB8 := hide (belowAl HB6.out (belowAl (belowAl hbd hb7) hb8))
  clear hb7 hb8 hbd hTG
  go_wp2
  go_ret
  exact ⟨rfl, HB8.out⟩
end Go.Proofs.YtagaemlgompggaaGreatDoor
