/- The plain cone: what it puts, and where. -/
import Derived.Test.YtabnimgpednhjaaNm
namespace Go.Proofs.Ytabnimgpednhjaa
open Go.RowKit

/-- Where all lies while the plain cone goes round. -/
structure CS (w wr : World) (m : Mv) (n G B6 B8 : Nat) (b : List Bool) (ch : Bool) : Prop where
  below : Below w.heap.size w wr
  box : Box wr w.heap.size m n
  row : BRow wr G b
  b6 : wr.cell? ⟨B6, 0, none⟩ = some (.slice (some ⟨G, 0, none⟩) n n)
  b8 : wr.cell? ⟨B8, 0, none⟩ = some (.bool ch)
  f8 : wr.frozen? ⟨B8, 0, none⟩ = false
  gN : w.heap.size < G
  g6 : G < B6
  g8 : B6 < B8

theorem CS.later {w wr w1 : World} {m : Mv} {n G B6 B8 : Nat} {b : List Bool} {ch : Bool} (h : CS w wr m n G B6 B8 b ch) (hb : Below wr.heap.size wr w1) : CS w w1 m n G B6 B8 b ch :=
  ⟨bthen h.below hb, h.box.later hb, h.row.later hb, cell_later hb h.b6, cell_later hb h.b8, frozen_later hb h.b8 h.f8, h.gN, h.g6, h.g8⟩

theorem CS.flag {w wr : World} {m : Mv} {n G B6 B8 : Nat} {b : List Bool} {ch : Bool} (h : CS w wr m n G B6 B8 b ch) (c : Bool) : CS w (wr.setCell ⟨B8, 0, none⟩ (.bool c)) m n G B6 B8 b c := by
  have hN := h.gN
  have h6 := h.g6
  have h8 := h.g8
  refine ⟨h.below.setCell (show w.heap.size ≤ B8 from by omega) _, h.box.kept (fun a v ha hc => ?_), fun j hj => ?_, keepOther (by omega) h.b6, ?_, ?_, hN, h6, h8⟩
  · obtain ⟨ab, ao, asp⟩ := a
    simp only at ha
    subst ha
    rw [World.cell?_setCell_other _ _ _ _ (by simp <;> omega)]
    exact hc
  · obtain ⟨h1, h2⟩ := h.row j hj
    exact ⟨keepOther (by omega) h1, by rw [World.frozen?_setCell]; exact h2⟩
  · rw [World.cell?_setCell_same _ _ _ h.b8]
  · rw [World.frozen?_setCell]; exact h.f8

theorem CS.mark {w wr : World} {m : Mv} {n G B6 B8 : Nat} {b : List Bool} {ch : Bool} (h : CS w wr m n G B6 B8 b ch) (j : Nat) : CS w (wr.setCell ⟨G, j, none⟩ (.bool true)) m n G B6 B8 (b.set j true) ch := by
  have hN := h.gN
  have h6 := h.g6
  have h8 := h.g8
  refine ⟨h.below.setCell (show w.heap.size ≤ G from by omega) _, h.box.kept (fun a v ha hc => ?_), h.row.set j true, keepOther (by omega) h.b6, keepOther (by omega) h.b8, ?_, hN, h6, h8⟩
  · obtain ⟨ab, ao, asp⟩ := a
    simp only at ha
    subst ha
    rw [World.cell?_setCell_other _ _ _ _ (by simp <;> omega)]
    exact hc
  · rw [World.frozen?_setCell]; exact h.f8

/-- All other cells are kept. -/
def Kept (G B8 : Nat) (w w' : World) : Prop := ∀ (a : Addr) (v : Value), a.block ≠ G → a.block ≠ B8 → w.cell? a = some v → w'.cell? a = some v

set_option maxRecDepth 100000 in
set_option maxHeartbeats 1000000 in
theorem put_any {w wr : World} {m : Mv} {n G B6 B8 : Nat} {b : List Bool} {ch : Bool} (h : CS w wr m n G B6 B8 b ch) (hn : b.length = n) (_hn80 : n ≤ 80) (x : Int) (h0 : 0 ≤ x) (h1 : x < n) :
    Calls Try.prog 71 #[.int .i64 x, .pointer (some ⟨B6, 0, none⟩), .pointer (some ⟨B8, 0, none⟩)] wr fun e w' => (∃ v, e = .returned v) ∧ CS w w' m n G B6 B8 (b.set x.toNat true) (ch || !b.getD x.toNat false) ∧ Kept G B8 wr w' := by
  have hlt : x.toNat < b.length := by omega
  obtain ⟨r1, r2⟩ := h.row x.toNat hlt
  have HE : Hid (b.getD x.toNat false = b[x.toNat]) := by simp [List.getD, List.getElem?_eq_getElem hlt, Hid]
  have b6 := h.b6
  have b8 := h.b8
  have f8 := h.f8
  have H := hide h
  have h6 := h.g6
  have h8 := h.g8
  have HS := hide (set_same b x.toNat)
  clear h
  have HN := hide hn
  generalize b[x.toNat] = bx at *
  clear hn hlt
  rw [HE.out]
  cases bx
  · have k6 : (wr.setCell ⟨G, x.toNat, none⟩ (.bool true)).cell? ⟨B6, 0, none⟩ = some (.slice (some ⟨G, 0, none⟩) n n) := keepOther (by omega) b6
    have k8 : (wr.setCell ⟨G, x.toNat, none⟩ (.bool true)).cell? ⟨B8, 0, none⟩ = some (.bool ch) := keepOther (by omega) b8
    have g8 : (wr.setCell ⟨G, x.toNat, none⟩ (.bool true)).frozen? ⟨B8, 0, none⟩ = false := by rw [World.frozen?_setCell]; exact f8
    have HF := hide ((H.out.mark x.toNat).flag true)
    have HKp : Hid (Kept G B8 wr ((wr.setCell ⟨G, x.toNat, none⟩ (.bool true)).setCell ⟨B8, 0, none⟩ (.bool true))) := by
      intro a v ha hb hc
      obtain ⟨ab, ao, asp⟩ := a
      simp only at ha hb
      rw [World.cell?_setCell_other _ _ _ _ (by simp <;> omega), World.cell?_setCell_other _ _ _ _ (by simp <;> omega)]
      exact hc
    clear H
    go_enter Try.func71, Try.ntmps71
    go_wp2
    first
      | go_end0
      | refine bodyPost_ret (results_none rfl _ _ _) rfl ?_
    exact ⟨⟨_, rfl⟩, by simpa using HF.out, HKp.out⟩
  · have HF : Hid (CS w wr m n G B6 B8 (b.set x.toNat true) (ch || !true)) := by rw [HS.out (by rw [HE.out])]; simp only [Bool.not_true, Bool.or_false]; exact H
    clear H
    go_enter Try.func71, Try.ntmps71
    go_wp2
    first
      | go_end0
      | refine bodyPost_ret (results_none rfl _ _ _) rfl ?_
    exact ⟨⟨_, rfl⟩, HF.out, fun a v _ _ hc => hc⟩

end Go.Proofs.Ytabnimgpednhjaa
