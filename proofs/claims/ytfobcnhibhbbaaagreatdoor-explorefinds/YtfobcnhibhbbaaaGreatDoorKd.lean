/- trace.Play, for any model and trace that passes. -/
import Derived.Test.YtfobcnhibhbbaaaGreatDoorKw
import Derived.Test.YtfobcnhibhbbaaaGreatDoorKbM
namespace Go.Proofs.YtfobcnhibhbbaaaGreatDoor.Ev.Xp
open Go.RowKit
set_option maxRecDepth 100000

theorem enter18 (args : Array Value) (w : World) : (callFunc 18 args).run Tryz.prog w = .ok (.enter 18 args) w := by kernel_rfl
/-- What has been played: k states, the last of which is there. -/
def PlayJ (base h : Nat) (S : Nat → Sg) (k : Nat) (w : World) : Prop := ∃ v x, w.heap[h]? = some (.cells #[v] 27 (0, 0)) ∧ Pw w base v k x ∧ (k ≠ 0 → SL w x (S (k - 1)))
theorem PlayJ.later {base h : Nat} {S : Nat → Sg} {k : Nat} {w w' : World} (hJ : PlayJ base h S k w) (hb : Below w.heap.size w w') : PlayJ base h S k w' := by
  obtain ⟨v, x, h1, h2, h3⟩ := hJ
  exact ⟨v, x, (hb.block _ (Array.getElem?_eq_some_iff.1 h1).1).trans h1, h2.later hb, fun h => (h3 h).later hb⟩
/-- The list is put where it was. -/
theorem play_put {base h : Nat} {S : Nat → Sg} {k : Nat} {w : World} {v v0 x : Value} (hh : w.heap[h]? = some (.cells #[v0] 27 (0, 0))) (hv0 : isSl v0) (hP : Pw w base v (k + 1) x) (hS : SL w x (S k)) : PlayJ base h S (k + 1) (w.setCell ⟨h, 0, none⟩ v) := by
  have hi : ∀ a n, w.cell? a = some (.int .i64 n) → (w.setCell ⟨h, 0, none⟩ v).cell? a = some (.int .i64 n) := by
    intro a n ha
    rw [World.cell?_setCell_other _ _ _ _ ?_]
    · exact ha
    · rintro rfl
      rw [Lib.cell_of_heap hh] at ha
      obtain ⟨p, q, c, rfl⟩ := hv0
      cases ha
  refine ⟨v, x, ?_, ?_, fun _ => SL_kept hS hi⟩
  · rw [heap_setCell_same _ _ _ _ _ _ hh]; rfl
  · rcases hP with ⟨_, h0⟩ | ⟨g, cap, cur, h1, h2, h3, h4⟩
    · omega
    · refine .inr ⟨g, cap, cur, h1, h2, ?_, h4⟩
      rw [heap_setCell_other _ _ _ _ ?_]
      · exact h3
      · rintro rfl
        rw [hh] at h3
        cases h3
theorem Pw.sl {w : World} {base : Nat} {v : Value} {n : Nat} {x : Value} (h : Pw w base v n x) : isSl v := by
  rcases h with ⟨rfl, _⟩ | ⟨g, cap, cur, rfl, _⟩
  · exact ⟨_, _, _, rfl⟩
  · exact ⟨_, _, _, rfl⟩
set_option maxHeartbeats 1000000 in
theorem play1G (base h : Nat) (S : Nat → Sg) (k : Nat) (hk : k ≤ 41) (v : Value) (b1 b2 : Value) (w : World) (hb : base ≤ w.heap.size) (hh : base ≤ h) (hJ : PlayJ base h S k w) (hS : SL w v (S k)) :
    Calls Tryz.prog 18 #[v, b1, b2, .pointer (some ⟨h, 0, none⟩)] w fun e w' => e = .returned (.tuple #[]) ∧ PlayJ base h S (k + 1) w' ∧ Below base w w' ∧ (∀ (g : Nat) (cs : Array Value) (T : TypeId) (fr : Nat × Nat), g ≠ h → w.heap[g]? = some (.cells cs T fr) → T ≠ 24 → w'.heap[g]? = w.heap[g]?) ∧ ∀ a n, w.cell? a = some (.int .i64 n) → w'.cell? a = some (.int .i64 n) := by
  obtain ⟨v0, x0, hh0, hP, -⟩ := hJ
  have HS := hide hS
  obtain ⟨p, cap, rfl, -⟩ := hS
  have HV0 := hide hP.sl
  obtain ⟨v', w', hrun, hP', hb', hT', hi'⟩ := pw_append hP hb (by omega) p (S k).length cap 27
  have hh1 : w'.heap[h]? = some (.cells #[v0] 27 (0, 0)) := (hT' h _ _ _ hh0 (by decide)).trans hh0
  have HJ := hide (play_put hh1 HV0.out hP' (SL_kept HS.out hi'))
  have HBW : Hid (Below base w (w'.setCell ⟨h, 0, none⟩ v')) := hb'.setCell hh _
  have HT : Hid (∀ (g : Nat) (cs : Array Value) (T : TypeId) (fr : Nat × Nat), g ≠ h → w.heap[g]? = some (.cells cs T fr) → T ≠ 24 → (w'.setCell ⟨h, 0, none⟩ v').heap[g]? = w.heap[g]?) := fun g cs T fr hg h1 h2 => by
    rw [heap_setCell_other _ _ _ _ (by simpa using hg)]
    exact hT' g cs T fr h1 h2
  have HI : Hid (∀ a n, w.cell? a = some (.int .i64 n) → (w'.setCell ⟨h, 0, none⟩ v').cell? a = some (.int .i64 n)) := fun a n ha => by
    rw [World.cell?_setCell_other _ _ _ _ ?_]
    · exact hi' a n ha
    · rintro rfl
      rw [Lib.cell_of_heap hh0] at ha
      obtain ⟨p, q, c, rfl⟩ := HV0.out
      cases ha
  have d0 : w.cell? ⟨h, 0, none⟩ = some v0 := by rw [Lib.cell_of_heap hh0]; rfl
  have d1 : w'.cell? ⟨h, 0, none⟩ = some v0 := by rw [Lib.cell_of_heap hh1]; rfl
  have f0 : w'.frozen? ⟨h, 0, none⟩ = false := Lib.frozen_of_heap hh1 0
  obtain ⟨p', n', c', rfl⟩ := hP'.sl
  clear hP hh0 hh1 hP' hb' hT' hi' HV0 HS
  go_enter Tryz.func18, Tryz.ntmps18
  go_wp2_with (at_builtin; refine Lib.wpList_append_run _ rfl _ _ _ _ rfl _ _ rfl rfl _ _ hrun ?_)
  go_end0
  exact ⟨rfl, HJ.out, HBW.out, HT.out, HI.out⟩
theorem play_looksG {w0 w : World} {h n : Nat} (hn : n ≤ 41) (h0 : w0.heap.size ≤ h) (h1 : h < w.heap.size) (S : Nat → Sg) (hd bd : Nat → Bool) : LooksG 18 #[.pointer (some ⟨h, 0, none⟩)] w0 w n S hd bd (PlayJ w0.heap.size h S) := by
  refine ⟨fun k w1 w2 hj hb => hj.later hb, fun k wr v hk hsz hbw hj hS => ?_⟩
  refine (show Calls Tryz.prog 18 #[v, .bool (hd k), .bool (bd k), .pointer (some ⟨h, 0, none⟩)] wr _ from (play1G w0.heap.size h S k (by omega) v _ _ wr hbw.size h0 hj hS).mono ?_)
  rintro e w' ⟨rfl, hj', hb', hT', hi'⟩
  exact ⟨rfl, hj', hb', fun g cs T fr hg h2 h3 => hT' g cs T fr (by omega) h2 h3, hi'⟩
theorem wk_few {ns : List Nd} {is xs : List (Int × Int)} {bs hs st : List Int} {L : List (List Int)} (h : wkE ns is xs bs hs st L = 0) : L.length ≠ 0 ∧ L.length ≤ 41 ∧ beginE ns is xs bs hs st = 0 ∧ ∀ k, k < L.length → rdE ns is xs bs hs L (beginI ns is 0 st) k = 0 := by
  unfold wkE at h
  by_cases hc : L.length = 0 ∨ 41 < L.length
  · rw [if_pos hc] at h; cases h
  · rw [if_neg hc] at h
    by_cases hb : beginE ns is xs bs hs st = 0
    · rw [if_neg (by simp [hb])] at h
      exact ⟨by omega, by omega, hb, firstN_zero.1 h⟩
    · rw [if_pos hb] at h
      exact absurd h hb
set_option maxHeartbeats 4000000 in
theorem play_any (a0 a1 a2 a3 a4 : Option Addr) (c0 c1 c2 c3 c4 : Nat) (ns : List Nd) (is xs : List (Int × Int)) (bs hs : List Int) (hln : ns.length ≤ 2932031007402) (hli : is.length ≤ 8796093022208) (hlx : xs.length ≤ 8796093022208) (hlb : bs.length ≤ maxLen) (hlh : hs.length ≤ maxLen)
    (st : List Int) (sp rp : Option Addr) (sc rc : Nat) (L : List (List Int)) (hlr : ∀ r ∈ L, r.length ≤ maxLen) (w : World) (hMd : MdAt ⟨a0, c0, a1, is.length, c1, a2, xs.length, c2, a3, bs.length, c3, a4, hs.length, c4⟩ ns is xs bs hs w) (hS0 : SL w (.slice sp st.length sc) st) (hR0 : RowsS w rp L) (hwe : wkE ns is xs bs hs st L = 0) :
    Calls Tryz.prog 8 #[Mv.val ⟨a0, c0, a1, is.length, c1, a2, xs.length, c2, a3, bs.length, c3, a4, hs.length, c4⟩ ns.length, .agg #[.slice sp st.length sc, .slice rp L.length rc]] w fun e w' => ∃ b c x, e = .returned (.tuple #[.slice (some ⟨b, 0, none⟩) L.length c, .int .i64 0]) ∧ w'.cell? ⟨b, L.length - 1, none⟩ = some x ∧ SL w' x (stN ns xs L (beginI ns is 0 st) (L.length - 1)) ∧ Below w.heap.size w w' := by
  have hmf : ∀ (fn : Fn) (first cap : Array Value) (w : World), (Instr.makeFunc fn first cap).run Tryz.prog w = .ok (.func fn first cap) w := fun _ _ _ _ => rfl
  have HWF := hide (wk_few hwe)
  have hbA : Below w.heap.size w (((w.alloc (.cells (Mv.cells ⟨a0, c0, a1, is.length, c1, a2, xs.length, c2, a3, bs.length, c3, a4, hs.length, c4⟩ ns.length) 26)).alloc (.cells #[.slice sp st.length sc, .slice rp L.length rc] 29)).alloc (.cells #[.slice none 0 0] 27)) := bal (bal (bal (Below.refl _ _) _) _) _
  have hJ : PlayJ w.heap.size (w.heap.size + 1 + 1) (stN ns xs L (beginI ns is 0 st)) 0 (((w.alloc (.cells (Mv.cells ⟨a0, c0, a1, is.length, c1, a2, xs.length, c2, a3, bs.length, c3, a4, hs.length, c4⟩ ns.length) 26)).alloc (.cells #[.slice sp st.length sc, .slice rp L.length rc] 29)).alloc (.cells #[.slice none 0 0] 27)) := by
    generalize Mv.cells ⟨a0, c0, a1, is.length, c1, a2, xs.length, c2, a3, bs.length, c3, a4, hs.length, c4⟩ ns.length = mc
    refine ⟨_, .slice none 0 0, ?_, .inl ⟨rfl, rfl⟩, fun h => absurd rfl h⟩
    have := heap_alloc_new ((w.alloc (.cells mc 26)).alloc (.cells #[.slice sp st.length sc, .slice rp L.length rc] 29)) (.cells #[.slice none 0 0] 27)
    rw [World.size_alloc, World.size_alloc] at this
    exact this
  have HW := hide (walk_any 18 #[.pointer (some ⟨w.heap.size + 1 + 1, 0, none⟩)] enter18 a0 a1 a2 a3 a4 c0 c1 c2 c3 c4 ns is xs bs hs hln hli hlx hlb hlh st sp rp sc rc L hlr _ w _ hMd hS0 hR0 hbA hJ (play_looksG HWF.out.2.1 (by omega) (by simp) _ _ _))
  rw [hwe] at HW
  clear hbA hJ hMd hS0 hR0 hwe
  go_enter Tryz.func8, Tryz.ntmps8
  go_wp2_with fail
  refine HW.out.mono ?_
  rintro e w1 ⟨rfl, hj, hb1⟩
  have HB1 := hide hb1
  obtain ⟨v, x, h1, h2, h3⟩ := hj trivial
  have hx := h3 HWF.out.1
  rcases h2 with ⟨_, h0⟩ | ⟨g, cap, cur, rfl, -, hg, -, -, -, -, hl⟩
  · exact absurd h0 HWF.out.1
  have d0 : w1.cell? ⟨w.heap.size + 1 + 1, 0, none⟩ = some (.slice (some ⟨g, 0, none⟩) L.length cap) := by rw [Lib.cell_of_heap h1]; rfl
  have HD1 : Hid (w1.cell? ⟨g, L.length - 1, none⟩ = some x) := by unfold Hid; rw [Lib.cell_of_heap hg]; exact hl
  have HX := hide hx
  clear hb1 HW hj h1 h3 hx hg hl
  go_wp2
  go_ret2
  exact ⟨g, _, x, rfl, HD1.out, HX.out, HB1.out⟩
end Go.Proofs.YtfobcnhibhbbaaaGreatDoor.Ev.Xp
