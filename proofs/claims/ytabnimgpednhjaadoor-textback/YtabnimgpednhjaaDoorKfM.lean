/- The model that turns round, and what must be in any case. -/
import Derived.Test.YtabnimgpednhjaaDoorNeM
import Derived.Test.YtabnimgpednhjaaDoorKd
import Derived.Test.YtabnimgpednhjaaDoorKp
import Derived.Test.YtabnimgpednhjaaDoorJh
namespace Go.Proofs.YtabnimgpednhjaaDoor.Ev
open Go.RowKit
set_option maxRecDepth 100000

def tgN : List Nd := [⟨1, 1, 0, 0, 0, 0⟩, ⟨3, 1, 0, 0, 0, 0⟩, ⟨4, 1, 1, 0, 0, 0⟩]
theorem tg_check : checkE tgN [(1, 0)] [(1, 2)] [1] [] = 0 := by decide
theorem tg_states : sel (isK tgN 3) tgN.length = [1] := by decide

set_option maxRecDepth 100000 in
set_option maxHeartbeats 1000000 in
theorem toggle_any (w : World) :
    Calls Tryd.prog 8 #[] w fun e w' => ∃ B0 B1 B2 B3, e = .returned (Mv.val ⟨some ⟨B0, 0, none⟩, 3, some ⟨B1, 0, none⟩, 1, 1, some ⟨B2, 0, none⟩, 1, 1, some ⟨B3, 0, none⟩, 1, 1, none, 0, 0⟩ 3) ∧
      NodesAt w' (some ⟨B0, 0, none⟩) tgN ∧ PairsAt w' (some ⟨B1, 0, none⟩) [(1, 0)] ∧ PairsAt w' (some ⟨B2, 0, none⟩) [(1, 2)] ∧ IntsAt w' (some ⟨B3, 0, none⟩) [1] ∧ Below w.heap.size w w' := by
  go_enter Tryd.func8, Tryd.ntmps8
  go_wp2
  refine bodyPost_ret (v := .agg #[.slice (some ⟨w.heap.size + 1, 0, none⟩) 3 3, .slice (some ⟨w.heap.size + 1 + 1, 0, none⟩) 1 1, .slice (some ⟨w.heap.size + 1 + 1 + 1, 0, none⟩) 1 1, .slice (some ⟨w.heap.size + 1 + 1 + 1 + 1, 0, none⟩) 1 1, .slice none 0 0]) (by simp [results, Tryd.results8, go_sem]) rfl ⟨w.heap.size + 1, w.heap.size + 1 + 1, w.heap.size + 1 + 1 + 1, w.heap.size + 1 + 1 + 1 + 1, rfl, ?_, ?_, ?_, ?_, ?_⟩
  · intro _
    refine ⟨w.heap.size + 1, 0, rfl, fun i hi => ?_⟩
    match i, hi with
    | 0, _ => simp [go_sem, tgN]
    | 1, _ => simp [go_sem, tgN]
    | 2, _ => simp [go_sem, tgN]
  · intro _
    refine ⟨w.heap.size + 1 + 1, 0, rfl, fun i hi => ?_⟩
    match i, hi with
    | 0, _ => simp [go_sem]
  · intro _
    refine ⟨w.heap.size + 1 + 1 + 1, 0, rfl, fun i hi => ?_⟩
    match i, hi with
    | 0, _ => simp [go_sem]
  · intro _
    refine ⟨w.heap.size + 1 + 1 + 1 + 1, 0, rfl, fun i hi => ?_⟩
    match i, hi with
    | 0, _ => simp [go_sem]
  · exact bal (bal (bal (bal (bal (Below.refl _ _) _) _) _) _) _

end Go.Proofs.YtabnimgpednhjaaDoor.Ev

namespace Go.Proofs.YtabnimgpednhjaaDoor
open Go.RowKit Go.Deep
set_option maxRecDepth 100000

def tgL0 : List UInt8 := [48, 32, 99, 111, 110, 115, 116, 32, 49, 32, 48, 10]
def tgL1 : List UInt8 := [49, 32, 115, 116, 97, 116, 101, 32, 49, 10]
def tgL2 : List UInt8 := [50, 32, 110, 111, 116, 32, 49, 32, 49, 10]
def tgL3 : List UInt8 := [105, 110, 105, 116, 32, 49, 32, 48, 10]
def tgL4 : List UInt8 := [110, 101, 120, 116, 32, 49, 32, 50, 10]
def tgL5 : List UInt8 := [98, 97, 100, 32, 49, 10]
def tgT : List UInt8 := tgL0 ++ tgL1 ++ tgL2 ++ tgL3 ++ tgL4 ++ tgL5
theorem tg_text : modelT Ev.tgN [(1, 0)] [(1, 2)] [1] [] = tgT := by kernel_rfl
theorem step_some {m m' : Md} {a r : List UInt8} {k : Nat} (he : endsOf ⟨(a ++ r).toArray⟩ = true) (hl : m.line (wordsOf (lineOf ⟨(a ++ r).toArray⟩)) = some m') (hr : restOf ⟨(a ++ r).toArray⟩ = ⟨r.toArray⟩) (h0 : (a ++ r).length ≠ 0) : readM m ⟨(a ++ r).toArray⟩ k = readM m' ⟨r.toArray⟩ (k + 1) := by
  rw [readM_some (by simpa [ByteArray.size] using h0) he hl, hr]
def tgM : Md := ⟨Ev.tgN, [(1, 0)], [(1, 2)], [1], [], 3⟩
theorem tg_read : readM Md0 ⟨tgT.toArray⟩ 1 = .ok tgM := by
  rw [show tgT = tgL0 ++ (tgL1 ++ (tgL2 ++ (tgL3 ++ (tgL4 ++ (tgL5 ++ []))))) by kernel_rfl]
  rw [step_some (m' := ⟨[⟨1, 1, 0, 0, 0, 0⟩], [], [], [], [], 0⟩) (by kernel_rfl) (by kernel_rfl) (by kernel_rfl) (by decide)]
  rw [step_some (m' := ⟨[⟨1, 1, 0, 0, 0, 0⟩, ⟨3, 1, 0, 0, 0, 0⟩], [], [], [], [], 0⟩) (by kernel_rfl) (by kernel_rfl) (by kernel_rfl) (by decide)]
  rw [step_some (m' := ⟨Ev.tgN, [], [], [], [], 0⟩) (by kernel_rfl) (by kernel_rfl) (by kernel_rfl) (by decide)]
  rw [step_some (m' := ⟨Ev.tgN, [(1, 0)], [], [], [], 1⟩) (by kernel_rfl) (by kernel_rfl) (by kernel_rfl) (by decide)]
  rw [step_some (m' := ⟨Ev.tgN, [(1, 0)], [(1, 2)], [], [], 2⟩) (by kernel_rfl) (by kernel_rfl) (by kernel_rfl) (by decide)]
  rw [step_some (m' := tgM) (by kernel_rfl) (by kernel_rfl) (by kernel_rfl) (by decide)]
  exact readM_nil rfl
theorem tg_parse : parseR ⟨tgT.toArray⟩ = (tgM, 0, 0) := by
  unfold parseR
  rw [if_neg (by decide), tg_read]
  exact if_pos Ev.tg_check
end Go.Proofs.YtabnimgpednhjaaDoor

namespace Go.Proofs.YtabnimgpednhjaaDoor
open Go.RowKit Go.Deep
set_option maxRecDepth 100000

theorem tg_ok : ∀ x ∈ Ev.tgN, (toD x).ok := by
  intro x hx
  simp only [Ev.tgN, List.mem_cons, List.not_mem_nil, or_false] at hx
  rcases hx with rfl | rfl | rfl <;> (intro i; unfold Nd6.at' toD; simp only; split <;> decide)
theorem IsModel.later {w w' : World} {v : Value} {m : Md} (h : IsModel w v m) (hb : Below w.heap.size w w') : IsModel w' v m := by
  obtain ⟨a0, a1, a2, a3, a4, c0, c1, c2, c3, c4, hv, h0, h1, h2, h3, h4⟩ := h
  exact ⟨a0, a1, a2, a3, a4, c0, c1, c2, c3, c4, hv, h0.later hb, h1.later hb, h2.later hb, h3.later hb, h4.later hb⟩
theorem tgP (B0 B1 B2 B3 : Nat) (w : World) (h0 : Ev.NodesAt w (some ⟨B0, 0, none⟩) Ev.tgN) (h1 : Ev.PairsAt w (some ⟨B1, 0, none⟩) [(1, 0)]) (h2 : Ev.PairsAt w (some ⟨B2, 0, none⟩) [(1, 2)]) (h3 : Ev.IntsAt w (some ⟨B3, 0, none⟩) [1]) (hKW : KW w) (hSW : SW w) (ht : Pow w) :
    Calls Tryd.prog 5 #[Ev.Mv.val ⟨some ⟨B0, 0, none⟩, 3, some ⟨B1, 0, none⟩, 1, 1, some ⟨B2, 0, none⟩, 1, 1, some ⟨B3, 0, none⟩, 1, 1, none, 0, 0⟩ 3] w fun e w' => e = .returned (.tuple #[.string ⟨tgT.toArray⟩, .int .i64 0]) ∧ Below w.heap.size w w' := by
  refine (print_any (some ⟨B0, 0, none⟩) (some ⟨B1, 0, none⟩) (some ⟨B2, 0, none⟩) (some ⟨B3, 0, none⟩) none 3 1 1 1 0 Ev.tgN [(1, 0)] [(1, 2)] [1] [] (by decide) (by decide) (by decide) (by decide) (by decide) (fun _ => tg_ok) (fun _ => by decide) (fun _ => by decide) w h0 h1 h2 h3 (fun h => absurd h (by decide)) hKW hSW ht).mono ?_
  rintro e w' ⟨t, rfl, ht1, -, hb⟩
  rw [Ev.tg_check, ht1 Ev.tg_check, tg_text]
  exact ⟨rfl, hb⟩
theorem tgS (v : Value) (B0 B1 B2 B3 : Nat) (w : World) (hv : IsModel w v tgM) (h0 : Ev.NodesAt w (some ⟨B0, 0, none⟩) Ev.tgN) (h1 : Ev.PairsAt w (some ⟨B1, 0, none⟩) [(1, 0)]) (h2 : Ev.PairsAt w (some ⟨B2, 0, none⟩) [(1, 2)]) (h3 : Ev.IntsAt w (some ⟨B3, 0, none⟩) [1]) :
    Calls Tryd.prog 7 #[v, Ev.Mv.val ⟨some ⟨B0, 0, none⟩, 3, some ⟨B1, 0, none⟩, 1, 1, some ⟨B2, 0, none⟩, 1, 1, some ⟨B3, 0, none⟩, 1, 1, none, 0, 0⟩ 3] w fun e w' => e = .returned (.bool true) ∧ Below w.heap.size w w' := by
  obtain ⟨a0, a1, a2, a3, a4, c0, c1, c2, c3, c4, rfl, g0, g1, g2, g3, g4⟩ := hv
  exact Ev.sameModel_eq a0 a1 a2 a3 a4 _ _ _ _ _ c0 c1 c2 c3 c4 3 1 1 1 0 Ev.tgN [(1, 0)] [(1, 2)] [1] [] (by decide) (by decide) (by decide) (by decide) (by decide) w g0 g1 g2 g3 g4 h0 h1 h2 h3 (fun h => absurd h (by decide))

theorem tg_lit : (ByteArray.mk tgT.toArray) = ⟨#[48, 32, 99, 111, 110, 115, 116, 32, 49, 32, 48, 10, 49, 32, 115, 116, 97, 116, 101, 32, 49, 10, 50, 32, 110, 111, 116, 32, 49, 32, 49, 10, 105, 110, 105, 116, 32, 49, 32, 48, 10, 110, 101, 120, 116, 32, 49, 32, 50, 10, 98, 97, 100, 32, 49, 10]⟩ := by kernel_rfl

set_option maxHeartbeats 4000000 in
theorem textBegun_any (mx : Int) (w : World) (hm : w.cell? ⟨2, 0, none⟩ = some (.int .i64 mx)) (hSW : SW w) (hKW : KW w) (ht : Pow w) :
    Calls Tryd.prog 4 #[] w fun e w' => e = .returned (.bool true) ∧ Below w.heap.size w w' := by
  have HM := hide hm
  have HSW := hide hSW
  have HKW := hide hKW
  have HT := hide ht
  clear hm hSW hKW ht
  go_enter Tryd.func4, Tryd.ntmps4
  go_wp2_with fail
  refine (Ev.toggle_any _).mono ?_
  rintro e w1 ⟨B0, B1, B2, B3, rfl, h0, h1, h2, h3, hb1⟩
  have HP := hide (tgP B0 B1 B2 B3 w1 h0 h1 h2 h3 (HKW.out.later hb1) (HSW.out.later hb1) (tab_later HT.out hb1))
  have HB1 := hide hb1
  clear h0 h1 h2 h3 hb1
  go_wp2_with fail
  refine HP.out.mono ?_
  rintro e w2 ⟨rfl, hb2⟩
  have HB2 := hide (belowAl HB1.out hb2)
  clear HP HB1 hb2
  have HR := hide (parse_any ⟨tgT.toArray⟩ (by decide) mx w2 (cell_later HB2.out HM.out) (HSW.out.later HB2.out) (HKW.out.later HB2.out))
  unfold ParseOut at HR
  rw [tg_parse] at HR
  have hsz : (ByteArray.mk tgT.toArray).toList = tgT := by rw [ByteArray.toList_eq]
  go_wp2_with fail
  refine HR.out.mono ?_
  rintro e w3 ⟨v, rfl, hv, hb3⟩
  have HB3 := hide (belowAl HB2.out hb3)
  have HV := hide hv
  obtain ⟨a0, a1, a2, a3, a4, c0, c1, c2, c3, c4, hvv, -⟩ := hv
  have hvv2 : v = .agg #[.slice a0 3 c0, .slice a1 1 c1, .slice a2 1 c2, .slice a3 1 c3, .slice a4 0 c4] := hvv
  rw [hvv2]
  rw [hvv2] at HV
  clear HR hb3 HB2 hvv hvv2 hsz
  rw [tg_lit]
  go_wp2
  have hb6 : Below w3.heap.size w3 (w3.alloc (.cells #[.slice a0 3 c0, .slice a1 1 c1, .slice a2 1 c2, .slice a3 1 c3, .slice a4 0 c4] 26)) := bal (Below.refl _ _) _
  have y0 : (w3.alloc (.cells #[.slice a0 3 c0, .slice a1 1 c1, .slice a2 1 c2, .slice a3 1 c3, .slice a4 0 c4] 26)).cell? ⟨w3.heap.size, 0, none⟩ = some (.slice a0 3 c0) := by simp [go_sem]
  have y1 : (w3.alloc (.cells #[.slice a0 3 c0, .slice a1 1 c1, .slice a2 1 c2, .slice a3 1 c3, .slice a4 0 c4] 26)).cell? ⟨w3.heap.size, 1, none⟩ = some (.slice a1 1 c1) := by simp [go_sem]
  have y2 : (w3.alloc (.cells #[.slice a0 3 c0, .slice a1 1 c1, .slice a2 1 c2, .slice a3 1 c3, .slice a4 0 c4] 26)).cell? ⟨w3.heap.size, 2, none⟩ = some (.slice a2 1 c2) := by simp [go_sem]
  have y3 : (w3.alloc (.cells #[.slice a0 3 c0, .slice a1 1 c1, .slice a2 1 c2, .slice a3 1 c3, .slice a4 0 c4] 26)).cell? ⟨w3.heap.size, 3, none⟩ = some (.slice a3 1 c3) := by simp [go_sem]
  have y4 : (w3.alloc (.cells #[.slice a0 3 c0, .slice a1 1 c1, .slice a2 1 c2, .slice a3 1 c3, .slice a4 0 c4] 26)).cell? ⟨w3.heap.size, 4, none⟩ = some (.slice a4 0 c4) := by simp [go_sem]
  have HV6 := hide (HV.out.later hb6)
  have HB6 := hide (belowAl HB3.out hb6)
  generalize w3.alloc (.cells #[.slice a0 3 c0, .slice a1 1 c1, .slice a2 1 c2, .slice a3 1 c3, .slice a4 0 c4] 26) = w6 at *
  clear hb6 HB3 HV
  generalize w3.heap.size = G at *
  have hbd : Below w6.heap.size w6 w6.drew := (Below.refl _ w6).drew
  go_region_held3 (fun w' => w'.cell? ⟨G, 0, none⟩ = some (.slice a0 3 c0) ∧ w'.cell? ⟨G, 1, none⟩ = some (.slice a1 1 c1) ∧ w'.cell? ⟨G, 2, none⟩ = some (.slice a2 1 c2) ∧ w'.cell? ⟨G, 3, none⟩ = some (.slice a3 1 c3) ∧ w'.cell? ⟨G, 4, none⟩ = some (.slice a4 0 c4))
    (first | exact ⟨y0, y1, y2, y3, y4⟩ | exact ⟨cell_later hb7 y0, cell_later hb7 y1, cell_later hb7 y2, cell_later hb7 y3, cell_later hb7 y4⟩ | exact ⟨cell_later hb8 (cell_later hb7 y0), cell_later hb8 (cell_later hb7 y1), cell_later hb8 (cell_later hb7 y2), cell_later hb8 (cell_later hb7 y3), cell_later hb8 (cell_later hb7 y4)⟩ | go_keep)
    (first
      | (go_at_call 8; refine (Ev.toggle_any _).mono ?_; rintro e w7 ⟨D0, D1, D2, D3, rfl, t0, t1, t2, t3, hb7⟩)
      | (go_at_call 7; refine (tgS _ D0 D1 D2 D3 _ (HV6.out.later (belowAl hbd hb7)) t0 t1 t2 t3).mono ?_; rintro e w8 ⟨rfl, hb8⟩))
  rename_i hHeld
  clear hHeld
  have HB8 := hide (belowAl HB6.out (belowAl (belowAl hbd hb7) hb8))
  clear hb7 hb8 hbd t0 t1 t2 t3
  go_wp2
  go_ret
  exact ⟨rfl, HB8.out⟩
end Go.Proofs.YtabnimgpednhjaaDoor
