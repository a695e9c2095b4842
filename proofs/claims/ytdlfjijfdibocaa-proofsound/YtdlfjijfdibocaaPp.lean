/- A board: those who watch a number, written over in place. -/
import Derived.Test.YtdlfjijfdibocaaPhM
import Derived.Test.YtdlfjijfdibocaaPi
import Derived.Test.YtdlfjijfdibocaaUi
namespace Go.Proofs.Ytdlfjijfdibocaa.Pf
open Go.RowKit Go.Maps Go.WideMaps
set_option maxRecDepth 100000

/-- What comes of a list when others are written over it from a place on. -/
def over (A : List (Nat × Int)) (k : Nat) : List (Nat × Int) → List (Nat × Int)
  | [] => A
  | p :: r => over (A.set k p) (k + 1) r
theorem over_len (r : List (Nat × Int)) : ∀ (A : List (Nat × Int)) (k : Nat), (over A k r).length = A.length := by
  induction r with
  | nil => intro A k; rfl
  | cons p r ih => intro A k; rw [over, ih, List.length_set]
theorem over_take (r : List (Nat × Int)) : ∀ (A : List (Nat × Int)) (k : Nat), k + r.length ≤ A.length → (over A k r).take (k + r.length) = A.take k ++ r := by
  induction r with
  | nil => intro A k h; simp [over]
  | cons p r ih =>
    intro A k h
    simp only [List.length_cons] at h
    rw [over, List.length_cons, show k + (r.length + 1) = (k + 1) + r.length by omega, ih _ _ (by rw [List.length_set]; omega)]
    have hk : k < A.length := by omega
    rw [List.take_set, List.take_succ_eq_append_getElem hk]
    rw [List.set_append_right _ _ (by rw [List.length_take]; omega), List.length_take, Nat.min_eq_left (by omega), Nat.sub_self]
    simp
theorem flatW_take (l : List (Nat × Int)) (m : Nat) : flatW (l.take m) = (flatW l).take (m * 2) := by
  induction l generalizing m with
  | nil => simp [flatW]
  | cons a l ih =>
    cases m with
    | zero => simp [flatW]
    | succ m => rw [List.take_succ_cons, flatW_cons, flatW_cons, ih, show (m + 1) * 2 = m * 2 + 1 + 1 by omega]; rfl
theorem row_takeW {w : World} {base : Nat} {p : Option Addr} {n c : Nat} {l : List (Nat × Int)} (h : w.ownsRow base 72 2 (.slice p n c) n (flatW l)) (hn : n = l.length) {m : Nat} (hm : m ≤ n) : w.ownsRow base 72 2 (.slice p m c) m (flatW (l.take m)) := by
  refine ⟨by rw [flatW_len, List.length_take]; omega, ?_⟩
  rcases h.2 with ⟨e, e0⟩ | ⟨g, cap, cur, e, hb, hg, h1, h2, h3, h4⟩
  · injection e with e1 e2 e3
    subst e1 e3
    exact .inl ⟨by rw [show m = 0 by omega], by omega⟩
  · injection e with e1 e2 e3
    subst e1 e3
    refine .inr ⟨g, c, cur, rfl, hb, hg, by omega, h2, h3, ?_⟩
    rw [flatW_take, ← h4, List.take_take, Nat.min_eq_left (by omega)]
theorem setCells_size (l : List Value) : ∀ (w : World) (g k : Nat), (w.setCells g k l).heap.size = w.heap.size := by
  induction l with
  | nil => intro w g k; rfl
  | cons a l ih => intro w g k; rw [World.setCells, ih, size_set]
section
variable {w : World} {X : Nat → Prop} {R S W nS nW : Nat} {vc vs : Value} {wk : Int} {cg cc : Nat → Nat} {wv : Int → Value} {B : Bd}
theorem Fr.sets (l : List Value) : ∀ {w : World} {g : Nat} (k : Nat), X g → Fr X w (w.setCells g k l) X := by
  induction l with
  | nil => intro w g k hg; exact Fr.refl _ _
  | cons a l ih => intro w g k hg; rw [World.setCells]; exact (Fr.set (q := ⟨g, k, none⟩) hg a).trans (ih (k + 1) hg)
theorem upd_twice {α : Type} (f : Int → α) (k : Int) (u v : α) : upd (upd f k u) k v = upd f k v := by
  funext x
  unfold upd
  split <;> rfl
theorem Mb.putWs {nt : Int} {g n0 cap : Nat} (hv : wv nt = .slice (some ⟨g, 0, none⟩) n0 cap) (r : List (Nat × Int)) : ∀ {w : World} {B : Bd} (k : Nat), Mb w X R S W nS nW vc vs wk cg cc wv B → Mb (w.setCells g (k * 2) (flatW r)) X R S W nS nW vc vs wk cg cc wv { B with wt := upd B.wt nt (over (B.wt nt) k r) } := by
  induction r with
  | nil => intro w B k h; simp only [flatW, List.flatMap_nil, over, World.setCells]; rw [upd_self]; exact h
  | cons p r ih =>
    intro w B k h
    have h1 := ih (k + 1) (h.putW hv k p)
    simp only [upd_same, upd_twice] at h1
    rw [flatW_cons]
    simp only [World.setCells]
    rw [show (k + 1) * 2 = k * 2 + 1 + 1 by omega] at h1
    exact h1
/-- Where those who watch a number lie. -/
theorem Mb.wtAt (h : Mb w X R S W nS nW vc vs wk cg cc wv B) {nt : Int} {j : Nat} (hj : j < (B.wt nt).length) : ∃ g cap, wv nt = .slice (some ⟨g, 0, none⟩) (B.wt nt).length cap ∧ (B.wt nt).length ≤ cap := by
  have hr := h.wl nt
  rcases hr.2 with ⟨_, h0⟩ | ⟨g, cap, cur, e, _, _, hc, _⟩
  · omega
  · exact ⟨g, cap, e, hc⟩
theorem Mb.wtCell (h : Mb w X R S W nS nW vc vs wk cg cc wv B) {nt : Int} {g n0 cap : Nat} (hv : wv nt = .slice (some ⟨g, 0, none⟩) n0 cap) {j : Nat} (hj : j < (B.wt nt).length) : w.cell? ⟨g, j * 2, none⟩ = some (.int .i64 (B.wt nt)[j].1) ∧ w.cell? ⟨g, j * 2 + 1, none⟩ = some (.int .i64 (B.wt nt)[j].2) := by
  have hr := h.wl nt
  rw [hv] at hr
  obtain ⟨a1, a2⟩ := flatW_at hj
  obtain rfl : n0 = (B.wt nt).length := by
    rcases hr.2 with ⟨e, e0⟩ | ⟨g', c, cur, e, _⟩
    · cases e
    · injection e
  have e1 := hr.cellAt (j * 2) (by show j * 2 < (B.wt nt).length * 2; omega)
  have e2 := hr.cellAt (j * 2 + 1) (by show j * 2 + 1 < (B.wt nt).length * 2; omega)
  rw [a1] at e1
  rw [a2] at e2
  exact ⟨e1, e2⟩
theorem Mb.wtFz (h : Mb w X R S W nS nW vc vs wk cg cc wv B) {nt : Int} {g n0 cap : Nat} (hv : wv nt = .slice (some ⟨g, 0, none⟩) n0 cap) (j : Nat) : w.frozen? ⟨g, j, none⟩ = false := by
  have hr := h.wl nt
  rw [hv] at hr
  rcases hr.2 with ⟨e, _⟩ | ⟨g', c, cur, e, _, hg, _⟩
  · cases e
  · injection e with e
    injection e with e
    injection e with e
    subst e
    exact Lib.frozen_of_heap hg j
/-- One more who watches is written behind those that are kept. -/
theorem Mb.appW (h : Mb w X R S W nS nW vc vs wk cg cc wv B) {nt : Int} {g n0 cap : Nat} (hv : wv nt = .slice (some ⟨g, 0, none⟩) n0 cap) {K : Nat} (hK : K < (B.wt nt).length) (i : Nat) (o : Int) :
    Mb ((w.alloc (.cells #[.int .i64 i, .int .i64 o] 72)).setCells g (K * 2) [.int .i64 i, .int .i64 o]) X R S W nS nW vc vs wk cg cc wv { B with wt := upd B.wt nt ((B.wt nt).set K (i, o)) } ∧ Fr X w ((w.alloc (.cells #[.int .i64 i, .int .i64 o] 72)).setCells g (K * 2) [.int .i64 i, .int .i64 o]) X ∧
      (∀ j, j < ([.int .i64 i, .int .i64 o] : List Value).length → ((w.alloc (.cells #[.int .i64 i, .int .i64 o] 72)).cell? ⟨g, K * 2 + j, none⟩).isSome = true) ∧ (∀ j, j < ([.int .i64 i, .int .i64 o] : List Value).length → (w.alloc (.cells #[.int .i64 i, .int .i64 o] 72)).frozen? ⟨g, K * 2 + j, none⟩ = false) := by
  have hal : Below w.heap.size w (w.alloc (.cells #[.int .i64 i, .int .i64 o] 72)) := bal (Below.refl _ _) _
  have h1 := h.later hal
  have hg : X g := h.xl nt g (by rw [hv]; rfl)
  obtain ⟨c0, c1⟩ := h1.wtCell hv hK
  refine ⟨h1.putWs hv [(i, o)] K, (Fr.quiet hal).trans (Fr.sets _ _ hg), fun j hj => ?_, fun j hj => h1.wtFz hv _⟩
  match j, hj with
  | 0, _ => rw [Nat.add_zero, c0]; rfl
  | 1, _ => rw [c1]; rfl
theorem flatW_drop (l : List (Nat × Int)) (m : Nat) : flatW (l.drop m) = (flatW l).drop (m * 2) := by
  induction l generalizing m with
  | nil => simp [flatW]
  | cons a l ih =>
    cases m with
    | zero => simp
    | succ m => rw [List.drop_succ_cons, flatW_cons, ih, show (m + 1) * 2 = m * 2 + 1 + 1 by omega]; rfl
/-- The rest of those who watch is written behind those that are kept. -/
theorem Mb.restW (h : Mb w X R S W nS nW vc vs wk cg cc wv B) {nt : Int} {g n0 cap : Nat} (hv : wv nt = .slice (some ⟨g, 0, none⟩) n0 cap) {K k : Nat} (hK : K ≤ k) (hk : k ≤ n0) :
    Mb (w.setCells g (K * 2) (flatW ((B.wt nt).drop k))) X R S W nS nW vc vs wk cg cc wv { B with wt := upd B.wt nt (over (B.wt nt) K ((B.wt nt).drop k)) } ∧ Fr X w (w.setCells g (K * 2) (flatW ((B.wt nt).drop k))) X ∧
      (flatW ((B.wt nt).drop k)).length = (n0 - k) * 2 ∧ (∀ j u, (flatW ((B.wt nt).drop k))[j]? = some u → w.cell? ((⟨g, k * 2, none⟩ : Addr).add j) = some u) ∧ (∀ u ∈ flatW ((B.wt nt).drop k), u.oneCell' = true) ∧
      (∀ j, j < (flatW ((B.wt nt).drop k)).length → (w.cell? ⟨g, K * 2 + j, none⟩).isSome = true) ∧ (∀ j, j < (flatW ((B.wt nt).drop k)).length → w.frozen? ⟨g, K * 2 + j, none⟩ = false) := by
  have hr := h.wl nt
  rw [hv] at hr
  obtain rfl : n0 = (B.wt nt).length := by
    rcases hr.2 with ⟨e, e0⟩ | ⟨g', c, cur, e, _⟩
    · cases e
    · injection e
  have hg : X g := h.xl nt g (by rw [hv]; rfl)
  have hlen : (flatW ((B.wt nt).drop k)).length = ((B.wt nt).length - k) * 2 := by rw [flatW_len, List.length_drop]
  refine ⟨h.putWs hv _ K, Fr.sets _ _ hg, hlen, fun j u hj => ?_, fun u hu => ?_, fun j hj => ?_, fun j hj => h.wtFz hv _⟩
  · have hj2 : j < ((B.wt nt).length - k) * 2 := by rw [← hlen]; exact (List.getElem?_eq_some_iff.1 hj).1
    have := hr.cellAt (k * 2 + j) (by show k * 2 + j < (B.wt nt).length * 2; omega)
    rw [flatW_drop, List.getElem?_drop] at hj
    rw [Addr.add_lit, this, hj]
  · unfold flatW at hu
    obtain ⟨p, _, hp⟩ := List.mem_flatMap.1 hu
    simp at hp
    rcases hp with rfl | rfl <;> rfl
  · rw [hlen] at hj
    have := hr.cellAt (K * 2 + j) (by show K * 2 + j < (B.wt nt).length * 2; omega)
    rw [this, List.getElem?_eq_getElem (by rw [flatW_len]; omega)]
    rfl
theorem Fr.newbox {w3 : World} {X3 : Nat → Prop} {bx : Nat} (h : Fr X w w3 X3) (hb : w.heap.size ≤ bx) (j : Nat) (u : Value) : Fr X w (w3.setCell ⟨bx, j, none⟩ u).drew X3 := by
  have hb0 : Below 0 w3 (w3.setCell ⟨bx, j, none⟩ u).drew := ((Below.refl 0 w3).setCell (Nat.zero_le _) u).drew
  exact ⟨hb0.os.trans h.os, hb0.tape.trans h.tape, hb0.output.trans h.output, Nat.le_trans h.size hb0.size, fun g hg hx => (Below.heap_setCell _ _ _ _ (by simp only [ne_eq]; omega)).trans (h.far g hg hx), h.to, h.fro⟩
/-- The list of those who watch is set down: the first part of what lies there. -/
theorem Mb.endW (h : Mb w X R S W nS nW vc vs wk cg cc wv B) (nt : Int) (hnt : Small nt) {p : Option Addr} {n0 cap : Nat} (hv : wv nt = .slice p n0 cap) (m : Nat) (hm : m ≤ n0) (hn : nW < maxLen) :
    ∃ w', (Instr.mapUpdate 63 (.map (some W)) (.int .i64 nt) (.slice p m cap)).run Try.prog w = .ok () w' ∧ Mb w' X R S W nS (nW + 1) vc vs wk cg cc (upd wv nt (.slice p m cap)) { B with wt := upd B.wt nt ((B.wt nt).take m) } ∧ Fr X w w' X := by
  have hr := h.wl nt
  rw [hv] at hr
  have hn0 : n0 = (B.wt nt).length := by
    rcases hr.2 with ⟨e, e0⟩ | ⟨g, c, cur, e, _⟩
    · injection e with _ e; omega
    · injection e
  subst hn0
  have hrow := row_takeW hr rfl hm
  have hsl := row_sl hrow
  have hwm := h.wm
  obtain ⟨D, hD, hDs⟩ := hwm
  obtain ⟨u', h1, h2, h3⟩ := hD.update law3 Try.underlying63 hn (key3 hnt) (slR_of hsl)
  have hnW : Value.ownBlock (wv nt) ≠ some W := row_nmap (h.wl nt) hD
  have hfar : ∀ g, g < w.heap.size → g ≠ W → u'.heap[g]? = w.heap[g]? := fun g hg hne => h3.block g hg (by simpa using hne)
  have hob : ∀ g, Value.ownBlock (.slice p m cap) = some g → (wv nt).ownBlock = some g := fun g hg => by
    rw [hv]
    cases p with
    | none => simp [Value.ownBlock] at hg
    | some a => simpa [Value.ownBlock] using hg
  refine ⟨u', h1, h.setWatch (fun g hg hne _ => hfar g hg hne) (fun _ e => e) (Wm.put hD.isMap hDs h2) ?_ (fun g hg => h.xl nt g (hob g hg)) (fun g hg => .inl (hob g hg)) (fun g hg => Nat.lt_of_lt_of_le (h.xb g hg) h3.size), ?_⟩
  · have hlt : ((B.wt nt).take m).length = m := by rw [List.length_take]; omega
    rw [hlt]
    refine row_same hrow fun g hg => hfar g ((h.wl nt).lt g (hob g hg)).2 fun e => ?_
    exact hnW (e ▸ hob g hg)
  · exact ⟨h3.os, h3.tape, h3.output, h3.size, fun g hg hx => hfar g hg (fun e => hx (e ▸ h.xw)), fun _ e => e, fun _ _ e => e⟩
end
end Go.Proofs.Ytdlfjijfdibocaa.Pf
