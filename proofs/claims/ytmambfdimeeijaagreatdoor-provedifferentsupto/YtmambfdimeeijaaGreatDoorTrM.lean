/- The plain clauses of a step are those of the unrolled circuit: bonds, begins, bads; lists alone. -/
import Derived.Test.YtmambfdimeeijaaGreatDoorSaM
import Derived.Test.YtmambfdimeeijaaGreatDoorSeM
import Derived.Test.YtmambfdimeeijaaGreatDoorKqM
namespace Go.Proofs.YtmambfdimeeijaaGreatDoor
theorem stL_num (f a : Int) (t i : Nat) (h0 : 0 ≤ (t : Int) * f) (ha : 0 ≤ a) : numL (stL f a t i) = t * f + 1 + a + i ∧ numL (turn (stL f a t i)) = -(t * f + 1 + a + i) ∧ 2 ≤ stL f a t i ∧ 2 ≤ turn (stL f a t i) := by
 have e : stL f a t i = 2 * (1 + a + i) + 2 * (t * f) := by unfold stL atL; rw [if_neg (by omega)]
 have o : odd (stL f a t i) = false := by rw [e]; unfold odd; rw [show (2 * (1 + a + (i : Int)) + 2 * ((t : Int) * f)) % 2 = 0 by omega]; rfl
 have o2 : odd (stL f a t i + 1) = true := by rw [e]; unfold odd; rw [show (2 * (1 + a + (i : Int)) + 2 * ((t : Int) * f) + 1) % 2 = 1 by omega]; rfl
 have tu : turn (stL f a t i) = stL f a t i + 1 := by unfold turn; rw [o]; rfl
 refine ⟨?_, ?_, by rw [e]; omega, by rw [tu, e]; omega⟩
 · unfold numL; rw [o, if_neg (by simp), e]; omega
 · rw [tu]; unfold numL; rw [o2, if_pos rfl, e]; omega
def samP (b x : Int) (n : Int) : List (List Int) := if n = 0 then [[-b]] else if n = 1 then [[b]] else [[-b, x], [b, -x]]
theorem same_P (f a : Int) (t u i : Nat) (n : Int) (hn : 0 ≤ n) (h0 : 0 ≤ (t : Int) * f) (hu : 0 ≤ (u : Int) * f) (ha : 0 ≤ a) : sameC (stL f a t i) (atL f u n) = samP (t * f + 1 + a + i) (numP n (u * f)) n := by
 obtain ⟨h1, h2, h3, h4⟩ := stL_num f a t i h0 ha
 unfold sameC samP
 by_cases hn0 : n = 0
 · subst hn0
   have e : atL f u 0 = 0 := by unfold atL; rw [if_pos (by decide)]
   rw [e, if_neg (by decide), if_pos rfl, if_pos rfl]
   unfold rootC
   rw [if_neg (by omega), if_neg (by omega), h2]
 · by_cases hn1 : n = 1
   · subst hn1
     have e : atL f u 1 = 1 := by unfold atL; rw [if_pos (by decide)]
     rw [e, if_pos rfl, if_neg (by decide), if_pos rfl]
     unfold rootC
     rw [if_neg (by omega), if_neg (by omega), h1]
   · have e : atL f u n = n + 2 * (u * f) := by unfold atL; rw [if_neg (by omega)]
     rw [if_neg (by omega), if_neg (by omega), if_neg hn0, if_neg hn1, h1, numP_at f u n (by omega)]
end Go.Proofs.YtmambfdimeeijaaGreatDoor

namespace Go.Proofs.YtmambfdimeeijaaGreatDoor
open Go.RowKit Go.Maps Go.WideMaps
set_option maxRecDepth 100000
structure Fx (w w1 : World) (B G F M : Nat) (C : Ci) (last : Nat) : Prop where
 ok : COk w C last
 b : Below w.heap.size w w1
 wM : w.heap.size ≤ M
 x0 : w1.cell? ⟨B, 0, none⟩ = some (.int .i64 C.ins)
 x1 : w1.cell? ⟨B, 1, none⟩ = some (.slice C.p C.ps.length C.cap)
 x2 : w1.cell? ⟨B, 2, none⟩ = some (.int .i64 C.a)
 x3 : w1.cell? ⟨B, 3, none⟩ = some (.int .i64 C.s)
 x4 : w1.cell? ⟨B, 4, none⟩ = some (.slice C.i.at' C.i.ns.length C.i.cap)
 x5 : w1.cell? ⟨B, 5, none⟩ = some (.slice C.n.at' C.n.ns.length C.n.cap)
 x6 : w1.cell? ⟨B, 6, none⟩ = some (.slice C.b.at' C.b.ns.length C.b.cap)
 x7 : w1.cell? ⟨B, 7, none⟩ = some (.slice C.h.at' C.h.ns.length C.h.cap)
 xf : w1.cell? ⟨F, 0, none⟩ = some (.int .i64 C.f)
 g : w1.heap[G]? = some (.cells #[.int .i64 0, .slice none 0 0] 30)
 hB : B < M
 hF : F < M
 hG : G < M
 wG : w.heap.size ≤ G
structure Fy (wr : World) (B F : Nat) (C : Ci) : Prop where
 at' : CirAt wr C.p C.ps C.i C.n C.b C.h
 x0 : wr.cell? ⟨B, 0, none⟩ = some (.int .i64 C.ins)
 x1 : wr.cell? ⟨B, 1, none⟩ = some (.slice C.p C.ps.length C.cap)
 x2 : wr.cell? ⟨B, 2, none⟩ = some (.int .i64 C.a)
 x3 : wr.cell? ⟨B, 3, none⟩ = some (.int .i64 C.s)
 x4 : wr.cell? ⟨B, 4, none⟩ = some (.slice C.i.at' C.i.ns.length C.i.cap)
 x5 : wr.cell? ⟨B, 5, none⟩ = some (.slice C.n.at' C.n.ns.length C.n.cap)
 x6 : wr.cell? ⟨B, 6, none⟩ = some (.slice C.b.at' C.b.ns.length C.b.cap)
 x7 : wr.cell? ⟨B, 7, none⟩ = some (.slice C.h.at' C.h.ns.length C.h.cap)
 xf : wr.cell? ⟨F, 0, none⟩ = some (.int .i64 C.f)
theorem Fx.at {w w1 wr : World} {B G F M : Nat} {C : Ci} {last : Nat} (h : Fx w w1 B G F M C last) (hb : Below M w1 wr) : Fy wr B F C := by
 have c : ∀ {q : Addr} {x : Value}, w1.cell? q = some x → q.block < M → wr.cell? q = some x := fun hq hl => blk_cell hq (hb.block _ hl)
 exact ⟨h.ok.at'.later (h.b.trans (hb.mono h.wM)), c h.x0 h.hB, c h.x1 h.hB, c h.x2 h.hB, c h.x3 h.hB, c h.x4 h.hB, c h.x5 h.hB, c h.x6 h.hB, c h.x7 h.hB, c h.xf h.hF⟩
theorem addS_any {w1 wr : World} {M : Nat} {V : Int} {L : List (List Int)} (h : Sc w1 wr M V L) (hL : L.length ≤ 1000000000) (l : List Int) (c : Nat) (o : Obj) (hI : IntsAt (wr.alloc o) (some ⟨wr.heap.size, 0, none⟩) l) :
   Calls Tryz.prog 14 #[.slice (some ⟨wr.heap.size, 0, none⟩) l.length c, .pointer (some ⟨M, 0, none⟩)] (wr.alloc o) fun e w' => e = .returned (.tuple #[]) ∧ Sc w1 w' M V (L ++ [l]) := by
 have hM := h.lt
 obtain ⟨v, rs, hn, hc, hb⟩ := h
 have hal : Below wr.heap.size wr (wr.alloc o) := bal (Below.refl _ _) o
 refine (addP_any M M v V rs (by rw [← numsOf_len, hn]; exact hL) l _ c _ (by simp; omega) (hc.below hal) hI (fun a ha => ?_)).mono ?_
 · cases ha
   refine ⟨by simp; omega, fun e => ?_, by simp, by simp; omega⟩
   have := (hc.row.lt _ e).2
   simp at this
 · rintro e w' ⟨rfl, v', r, hr, hc', hb', _⟩
   exact ⟨rfl, v', rs ++ [r], by rw [numsOf_app, hn, hr], hc', (hb.trans (hal.mono (Nat.le_of_lt hM))).trans hb'⟩
theorem addS_one {w1 wr : World} {M : Nat} {V : Int} {L : List (List Int)} (h : Sc w1 wr M V L) (hL : L.length ≤ 1000000000) (x : Int) :
   Calls Tryz.prog 14 #[.slice (some ⟨wr.heap.size, 0, none⟩) 1 1, .pointer (some ⟨M, 0, none⟩)] (wr.alloc (.cells #[.int .i64 x] 3)) fun e w' => e = .returned (.tuple #[]) ∧ Sc w1 w' M V (L ++ [[x]]) :=
 addS_any h hL [x] 1 _ (ints_one x)
theorem addS_two {w1 wr : World} {M : Nat} {V : Int} {L : List (List Int)} (h : Sc w1 wr M V L) (hL : L.length ≤ 1000000000) (x y : Int) :
   Calls Tryz.prog 14 #[.slice (some ⟨wr.heap.size, 0, none⟩) 2 2, .pointer (some ⟨M, 0, none⟩)] (wr.alloc (.cells #[.int .i64 x, .int .i64 y] 3)) fun e w' => e = .returned (.tuple #[]) ∧ Sc w1 w' M V (L ++ [[x, y]]) :=
 addS_any h hL [x, y] 2 _ (ints_two x y)
end Go.Proofs.YtmambfdimeeijaaGreatDoor

namespace Go.Proofs.YtmambfdimeeijaaGreatDoor
open Go.RowKit Go.Maps Go.WideMaps
set_option maxRecDepth 100000
def opensWith (n : Nat) : Code → Bool
 | .region m _ _ => m == n
 | .seq a _ => opensWith n a
 | _ => false
def findSeq (n : Nat) : Code → Option Code
 | .seq a b => if opensWith n a then some (.seq a b) else match findSeq n a with | some c => some c | none => findSeq n b
 | .block _ b => findSeq n b
 | .cond _ t e => match findSeq n t with | some c => some c | none => findSeq n e
 | .loop b => findSeq n b
 | _ => none
def StO (w : World) (V : Int) (L : List (List Int)) (e : Ending) (w' : World) : Prop :=
 ∃ pv cv rws, e = .returned (cval V pv (List.length rws) cv) ∧ numsOf rws = L ∧ ClAt w' pv rws ∧ Below w.heap.size w w' ∧ (∀ a, pv = some a → w.heap.size ≤ a.block) ∧ ∀ r ∈ rws, ∀ a, r.at' = some a → w.heap.size ≤ a.block
theorem stO_of {w w1 wc : World} {B G F M : Nat} {C : Ci} {last : Nat} {V : Int} {L : List (List Int)} (hx : Fx w w1 B G F M C last) (hs : Sc w1 wc M V L) :
   ∃ pz nz cz, wc.cell? ⟨M, 0, none⟩ = some (.int .i64 V) ∧ wc.cell? ⟨M, 1, none⟩ = some (.slice pz nz cz) ∧ wc.cell? ⟨G, 0, none⟩ = some (.int .i64 0) ∧ wc.cell? ⟨G, 1, none⟩ = some (.slice none 0 0) ∧
     wc.frozen? ⟨G, 0, none⟩ = false ∧ wc.frozen? ⟨G, 1, none⟩ = false ∧
     ((wc.setCell ⟨G, 0, none⟩ (.int .i64 V)).setCell ⟨G, 1, none⟩ (.slice pz nz cz)).heap[G]? = some (.cells #[.int .i64 V, .slice pz nz cz] 30) ∧
     StO w V L (.returned (.agg #[.int .i64 V, .slice pz nz cz])) ((wc.setCell ⟨G, 0, none⟩ (.int .i64 V)).setCell ⟨G, 1, none⟩ (.slice pz nz cz)) := by
 obtain ⟨v, rs, hn, hc, hb⟩ := hs
 obtain ⟨p, cap, rfl, hr⟩ := owns_rows hc.row
 have hG : wc.heap[G]? = some (.cells #[.int .i64 0, .slice none 0 0] 30) := (hb.block _ hx.hG).trans hx.g
 obtain ⟨⟨g0, g1, f0, f1⟩, gh⟩ := r30 hG
 have hGM := hx.hG
 have hpM : ∀ a, p = some a → M ≤ a.block := fun a ha => (hc.row.lt a.block (by subst ha; rfl)).1
 have hpG : ∀ a, p = some a → a.block ≠ G := fun a ha => by
   have := hpM a ha
   omega
 have hrG : ∀ r ∈ rs, ∀ a, r.at' = some a → a.block ≠ G := fun r h a ha => by
   have := (hc.far r h a ha).2.2.2
   omega
 refine ⟨p, rs.length, cap, hc.c0, hc.c1, g0, g1, f0, f1, gh _ _, p, cap, rs, rfl, hn, clAt_set (clAt_set ⟨hr, hc.inn⟩ hpG hrG) hpG hrG, ?_, fun a ha => Nat.le_trans hx.wM (hpM a ha), fun r h a ha => Nat.le_trans hx.wM (hc.far r h a ha).2.2.2⟩
 exact ((hx.b.trans (hb.mono hx.wM)).setCell (p := ⟨G, 0, none⟩) hx.wG _).setCell (p := ⟨G, 1, none⟩) hx.wG _
theorem stepsL_le {f : Nat → List (List Int)} {c n : Nat} (h : ∀ k, k < n → (f k).length ≤ c) : (stepsL f n).length ≤ n * c := by
 induction n with
 | zero => simp [stepsL]
 | succ n ih =>
   rw [stepsL_succ, List.length_append, Nat.succ_mul]
   have := ih (fun k hk => h k (by omega))
   have := h n (by omega)
   omega
theorem rootC_le (x : Int) : (rootC x).length ≤ 1 := by
 unfold rootC
 split
 · simp
 · split <;> simp
theorem sameC_le (x y : Int) : (sameC x y).length ≤ 2 := by
 unfold sameC
 split
 · have := rootC_le x; omega
 · split
   · have := rootC_le (turn x); omega
   · simp
theorem mustP_le (x off : Int) : (mustP x off).length ≤ 1 := by
 unfold mustP
 split
 · simp
 · split <;> simp
theorem holdsT_le (C : Ci) (t : Nat) : (holdsT C t).length ≤ C.h.ns.length := by
 have := stepsL_le (f := holdC C t) (c := 1) (n := C.h.ns.length) (fun _ _ => rootC_le _)
 unfold holdsT
 omega
theorem holds_le (C : Ci) (t k : Nat) (ht : t ≤ 41) (hk : k ≤ C.h.ns.length) (hl : C.h.ns.length ≤ 2000000) : (stepsL (holdsT C) t).length + (stepsL (holdC C t) k).length ≤ 84000000 := by
 have h1 := stepsL_le (f := holdsT C) (c := 2000000) (n := t) (fun j _ => Nat.le_trans (holdsT_le C j) hl)
 have h2 := stepsL_le (f := holdC C t) (c := 1) (n := k) (fun _ _ => rootC_le _)
 omega
theorem bondsT_le (C : Ci) (t : Nat) : (bondsT C t).length ≤ C.n.ns.length * 2 := stepsL_le (f := bondC C t) (c := 2) (n := C.n.ns.length) (fun _ _ => sameC_le _ _)
theorem bonds_le (C : Ci) (t k : Nat) (ht : t ≤ 41) (hk : k ≤ C.n.ns.length) (hl : C.n.ns.length ≤ 1000) : (stepsL (bondsT C) t).length + (stepsL (bondC C t) k).length ≤ 84000 := by
 have h1 := stepsL_le (f := bondsT C) (c := 2000) (n := t) (fun j _ => Nat.le_trans (bondsT_le C j) (by omega))
 have h2 := stepsL_le (f := bondC C t) (c := 2) (n := k) (fun _ _ => sameC_le _ _)
 omega
theorem ands_le (C : Ci) (t : Nat) (ht : t ≤ 41) (hl : C.ps.length ≤ 200000) : (stepsL (fun t => andsT C t C.ps.length) t).length ≤ 24600000 := by
 have h2 := stepsL_le (f := fun t => andsT C t C.ps.length) (c := 600000) (n := t) (fun k _ => by rw [andsT_len C k _ (Nat.le_refl _)]; omega)
 omega
theorem row_at {w : World} {p : Option Addr} {l : List Int} {bb bo k : Nat} (h : IntsAt w p l) (hk : k < l.length) (hp : p = some ⟨bb, bo, none⟩) : w.cell? ⟨bb, bo + k, none⟩ = some (.int .i64 l[k]) := by
 obtain ⟨b, o, e, hc⟩ := h (by omega)
 rw [hp] at e
 cases e
 exact hc k hk
theorem row_is {w : World} {p : Option Addr} {l : List Int} (h : IntsAt w p l) (hl : 0 < l.length) : ∃ bb bo, p = some ⟨bb, bo, none⟩ := by
 obtain ⟨b, o, e, _⟩ := h hl
 exact ⟨b, o, e⟩
end Go.Proofs.YtmambfdimeeijaaGreatDoor

namespace Go.Proofs.YtmambfdimeeijaaGreatDoor
open Go.RowKit Go.Maps Go.WideMaps
set_option maxRecDepth 100000
theorem ck_zero {C : Ci} {steps : Int} {begun : Bool} (h : ckE C steps begun = 0) : C.e = 0 ∧ (0 ≤ steps ∧ steps ≤ 40) ∧ (begun = true → ∀ x ∈ C.i.ns, ¬ 1 < x) := by
 unfold ckE stE at h
 by_cases h0 : C.e = 0
 · by_cases hs : 0 ≤ steps ∧ steps ≤ 40
   · have e1 : (if C.e = 0 ∧ ¬ (0 ≤ steps ∧ steps ≤ 40) then (3 : Int) else C.e) = 0 := by rw [if_neg (fun e => e.2 hs)]; exact h0
     rw [e1, if_neg (by simp)] at h
     refine ⟨h0, hs, fun hb x hx hx1 => ?_⟩
     subst hb
     rw [if_pos (by simp only [Bool.true_and, List.any_eq_true, decide_eq_true_eq]; exact ⟨x, hx, hx1⟩)] at h
     cases h
   · rw [show (if C.e = 0 ∧ ¬ (0 ≤ steps ∧ steps ≤ 40) then (3 : Int) else C.e) = 3 from if_pos ⟨h0, hs⟩, if_pos (by decide)] at h; cases h
 · rw [show (if C.e = 0 ∧ ¬ (0 ≤ steps ∧ steps ≤ 40) then (3 : Int) else C.e) = C.e from if_neg (fun e => h0 e.1), if_pos h0] at h; exact absurd h h0
end Go.Proofs.YtmambfdimeeijaaGreatDoor

namespace Go.Proofs.YtmambfdimeeijaaGreatDoor
open Go.RowKit Go.Maps Go.WideMaps
set_option maxRecDepth 100000
theorem ap_ck {w : World} {C : Ci} {steps : Int} (_hC : CIn w C) (h : ckE C steps false ≠ 0) : apE C steps = ckE C steps false := by
 unfold apE
 unfold ckE stE at h ⊢
 by_cases h0 : C.e = 0
 · by_cases hs : 0 ≤ steps ∧ steps ≤ 40
   · have e1 : (if C.e = 0 ∧ ¬ (0 ≤ steps ∧ steps ≤ 40) then (3 : Int) else C.e) = 0 := by rw [if_neg (fun e => e.2 hs)]; exact h0
     rw [e1] at h
     simp at h
   · have e1 : (if C.e = 0 ∧ ¬ (0 ≤ steps ∧ steps ≤ 40) then (3 : Int) else C.e) = 3 := if_pos ⟨h0, hs⟩
     rw [e1, if_neg (show ¬ C.e ≠ 0 by simpa using h0), if_pos (show steps < 0 ∨ 40 < steps by omega), if_pos (show (3 : Int) ≠ 0 by decide)]
 · have e1 : (if C.e = 0 ∧ ¬ (0 ≤ steps ∧ steps ≤ 40) then (3 : Int) else C.e) = C.e := if_neg (fun e => h0 e.1)
   rw [e1, if_pos h0, if_pos h0]
theorem ap_zero {w : World} {C : Ci} {steps : Int} (hC : CIn w C) (h : ckE C steps false = 0) :
   apE C steps = if 200000 < (steps + 1) * C.f then 3 else chkC (apV C steps.toNat) (apL C steps.toNat) := by
 obtain ⟨h0, hs, _⟩ := ck_zero h
 have hCO := co_of hC h0 steps.toNat (by omega)
 have hf := hCO.f0
 have hV : 0 ≤ (steps + 1) * C.f := Int.mul_nonneg (by omega) hf
 have hN : 0 ≤ (cntP steps.toNat (steps.toNat + 1) : Int) * C.s := Int.mul_nonneg (by omega) hCO.s0
 have hva : apV C steps.toNat = (steps + 1) * C.f + (cntP steps.toNat (steps.toNat + 1) : Int) * C.s := by unfold apV; rw [show ((steps.toNat : Nat) : Int) = steps by omega]
 unfold apE mdE
 rw [if_neg (show ¬ C.e ≠ 0 by simpa using h0), if_neg (show ¬ (steps < 0 ∨ 40 < steps) by omega)]
 generalize apV C steps.toNat = W at *
 by_cases h1 : 200000 < (steps + 1) * C.f
 · rw [if_pos h1, if_pos (by omega)]
 · rw [if_neg h1]
   unfold chkC
   by_cases h2 : 200000 < W
   · rw [if_pos h2, if_pos (btw_false.2 (by omega))]
   · have h3 : btw W 0 200000 = true := btw_true.2 ⟨by omega, by omega⟩
     rw [if_neg h2, h3, if_neg (show ¬ true = false by decide)]
     split
     · rfl
     · rfl
theorem apL_le {w : World} {C : Ci} {last : Nat} (hC : COk w C last) : (apL C last).length ≤ 200000000 := by
 have hla := hC.la
 have h1 := ands_le C (last + 1) (by omega) hC.pl
 have h2 := bonds_le C last 0 (by omega) (by omega) (by have := hC.nl; have := hC.sm; have := hC.i1; have := hC.a0; omega)
 have h4 := holds_le C (last + 1) 0 (by omega) (by omega) hC.hl
 have h5 : (badC C last).length ≤ 1 := by unfold badC; split <;> simp
 have h6 := stepsL_le (f := quietT C) (c := 2000000) (n := last) (fun j _ => Nat.le_trans (stepsL_le (f := quietC C j) (c := 1) (n := C.b.ns.length) (fun _ _ => rootC_le _)) (by have := hC.bl; omega))
 have h7 : (diffL C last (((last : Int) + 1) * C.f)).length ≤ 820 * 2001 := by
   unfold diffL
   rw [rows_len]
   have h8 := cntP_all last
   have h9 : last * (last + 1) ≤ 40 * 41 := Nat.mul_le_mul hla (by omega)
   exact Nat.mul_le_mul (by omega) (by have := hC.sm; have := hC.i1; have := hC.a0; have := hC.s0; omega)
 unfold apL
 simp only [List.length_append]
 omega
end Go.Proofs.YtmambfdimeeijaaGreatDoor

namespace Go.Proofs.YtmambfdimeeijaaGreatDoor
open Go.RowKit Go.Maps Go.WideMaps
set_option maxRecDepth 100000
theorem row_five {vars : Int} {ns : List Int} (h1 : ns.length ≤ 200) {k : Nat} (hk : k < ns.length) (h : noneC vars ns[k] = true) : rowE vars ns = 5 := by
 unfold rowE
 rw [if_neg (by omega), if_pos (List.any_eq_true.2 ⟨_, List.getElem_mem hk, h⟩)]
theorem rowE_nil {vars : Int} {ns : List Int} (h1 : ns.length ≤ 200) (h : ∀ i (hi : i < ns.length), noneC vars ns[i] = false) : rowE vars ns = 0 := by
 unfold rowE
 have : ns.any (noneC vars) = false := by
   rw [List.any_eq_false]
   intro x hx
   obtain ⟨i, hi, rfl⟩ := List.getElem_of_mem hx
   rw [h i hi]; simp
 rw [if_neg (by omega), this]
 rfl
set_option maxHeartbeats 4000000 in
theorem checkClause_any (vars : Int) (h0 : 0 ≤ vars) (h1 : vars ≤ 200000) (p : Option Addr) (cap : Nat) (ns : List Int) (hl : ns.length ≤ maxLen) (w : World) (hI : IntsAt w p ns) :
   Calls Tryz.prog 34 #[.int .i64 vars, .slice p ns.length cap] w fun e w' => e = .returned (.int .i64 (rowE vars ns)) ∧ w' = w := by
 have HI := hide hI
 unfold maxLen at hl
 clear hI
 by_cases h2 : 200 < ns.length
 · have HX : Hid (rowE vars ns = 2) := by unfold rowE; rw [if_pos h2]; rfl
   have h2' : (200 : Int) < (ns.length : Int) := by omega
   go_enter Tryz.func34, Tryz.ntmps34
   go_wp2
   go_ret
   exact ⟨ret_int HX.out.symm, rfl⟩
 · have h2' : ¬ (200 : Int) < (ns.length : Int) := by omega
   go_enter Tryz.func34, Tryz.ntmps34
   go_wp2
   go_loopw [5] (fun i wr => ∃ k : Nat, k ≤ ns.length ∧ i = .int .i64 k ∧ Hid (∀ i (hi : i < ns.length), i < k → noneC vars ns[i] = false) ∧ wr = w) (fun i _ => ns.length - (intOf i).toNat)
   case atStart => exact ⟨0, Nat.zero_le _, rfl, fun i hi h => by omega, rfl⟩
   case round =>
     obtain ⟨k, hk, rfl, hno, rfl⟩ := hrel
     by_cases hlt : k < ns.length
     · obtain ⟨b, off, rfl, hc⟩ := HI.out (by omega)
       have hck := hc k hlt
       have hki : (k : Int) < (ns.length : Int) := by omega
       have HF := hide (row_five (vars := vars) (by omega) hlt)
       have HN : Hid (noneC vars ns[k] = false → ∀ i (hi : i < ns.length), i < k + 1 → noneC vars ns[i] = false) := by
         intro hf i hi h
         rcases Nat.lt_succ_iff_lt_or_eq.1 h with h1 | rfl
         · exact hno.out i hi h1
         · exact hf
       clear hc hno
       generalize ns[k] = x at *
       have HE : Hid (noneC vars x = (x == 0 || decide (x < -vars) || decide (vars < x))) := rfl
       by_cases hz : x = 0
       · have HX := hide (HF.out (by rw [HE.out]; simp [hz]))
         subst hz
         go_wp2
         go_ret
         exact ⟨ret_int HX.out.symm, rfl⟩
       · have hz' : (x == 0) = false := by simpa using hz
         by_cases hg : vars < x
         · have HX := hide (HF.out (by rw [HE.out]; simp [hg]))
           go_wp2
           go_ret
           exact ⟨ret_int HX.out.symm, rfl⟩
         · by_cases hs : x < -vars
           · have HX := hide (HF.out (by rw [HE.out]; simp [hs]))
             go_wp2
             go_ret
             exact ⟨ret_int HX.out.symm, rfl⟩
           · have HX := hide (HN.out (by rw [HE.out, hz']; simp [hs, hg]))
             go_wp2
             go_roundw
             case rel => exact ⟨k + 1, by omega, by go_num, HX, trivial⟩
             case measure => simp [intOf]; omega
     · have HX := hide (rowE_nil (vars := vars) (by omega) (fun i hi => hno.out i hi (by omega)))
       go_wp2
       go_ret
       exact ⟨ret_int HX.out.symm, rfl⟩
set_option maxHeartbeats 4000000 in
theorem checkClauses_any (vars : Int) (p : Option Addr) (cap : Nat) (rs : List Row) (hl : rs.length ≤ 8796093022208) (hin : ∀ r ∈ rs, r.ns.length ≤ maxLen) (w : World) (hC : ClAt w p rs) :
   Calls Tryz.prog 13 #[cval vars p rs.length cap] w fun e w' => e = .returned (.int .i64 (chkC vars (numsOf rs))) ∧ Below w.heap.size w w' := by
 have hB0 : Below w.heap.size w (w.alloc (.cells #[.int .i64 vars, .slice p rs.length cap] 30)) := bal (Below.refl _ _) _
 have hnl := numsOf_len rs
 have HE : Hid (chkC vars (numsOf rs) = if btw vars 0 200000 = false then 3 else if 800000 < rs.length then 2 else firstE vars (numsOf rs)) := by unfold chkC; rw [hnl]; rfl
 have HC := hide (hC.later hB0)
 have HIN := hide hin
 have HBT := hide (fun w => between_any vars 0 200000 w)
 clear hC hin
 generalize chkC vars (numsOf rs) = R at *
 cases hbt : btw vars 0 200000
 · rw [hbt] at HE HBT
   have HX : Hid (R = 3) := by rw [HE.out]; rfl
   go_enter Tryz.func13, Tryz.ntmps13
   go_wp2_with (go_at_call 12; refine (HBT.out _).mono ?_; rintro e w' ⟨rfl, rfl⟩)
   go_ret
   exact ⟨ret_int HX.out.symm, hB0⟩
 · obtain ⟨hv, hv2⟩ := btw_true.1 hbt
   rw [hbt, if_neg (by decide)] at HE
   rw [hbt] at HBT
   by_cases hm : 800000 < rs.length
   · have HX : Hid (R = 2) := by rw [HE.out, if_pos hm]; rfl
     have hm' : (800000 : Int) < (rs.length : Int) := by omega
     go_enter Tryz.func13, Tryz.ntmps13
     go_wp2_with (go_at_call 12; refine (HBT.out _).mono ?_; rintro e w' ⟨rfl, rfl⟩)
     go_ret
     exact ⟨ret_int HX.out.symm, hB0⟩
   · rw [if_neg hm] at HE
     have hm' : ¬ (800000 : Int) < (rs.length : Int) := by omega
     have b0 : (w.alloc (.cells #[.int .i64 vars, .slice p rs.length cap] 30)).cell? ⟨w.heap.size, 0, none⟩ = some (.int .i64 vars) := by simp [go_sem]
     have b1 : (w.alloc (.cells #[.int .i64 vars, .slice p rs.length cap] 30)).cell? ⟨w.heap.size, 1, none⟩ = some (.slice p rs.length cap) := by simp [go_sem]
     have HB0 := hide hB0
     clear hB0 hbt
     go_enter Tryz.func13, Tryz.ntmps13
     go_wp2_with (go_at_call 12; refine (HBT.out _).mono ?_; rintro e w' ⟨rfl, rfl⟩)
     generalize w.alloc (.cells #[.int .i64 vars, .slice p rs.length cap] 30) = w0 at *
     go_loopw [3] (fun i wr => ∃ k : Nat, k ≤ rs.length ∧ i = .int .i64 k ∧ Hid (firstE vars (numsOf rs) = firstE vars ((numsOf rs).drop k)) ∧ Below w0.heap.size w0 wr) (fun i _ => rs.length - (intOf i).toNat)
     case atStart => exact ⟨0, Nat.zero_le _, rfl, by simp [Hid], Below.refl _ _⟩
     case round =>
       obtain ⟨k, hk, rfl, hf, hbw⟩ := hrel
       have c0 := cell_later hbw b0
       have c1 := cell_later hbw b1
       have HBW := hide (bthen HB0.out hbw)
       by_cases hlt : k < rs.length
       · obtain ⟨b, off, rfl, hc⟩ := (HC.out.rows.later hbw) (by omega)
         have hck := hc k hlt
         have hki : (k : Int) < (rs.length : Int) := by omega
         have hrk : (numsOf rs)[k]'(by omega) = rs[k].ns := by simp [numsOf]
         have HD := hide (firstE_drop vars (numsOf rs) k (by omega))
         rw [hrk] at HD
         have HIR := hide ((HC.out.inn.later hbw) rs[k] (List.getElem_mem hlt))
         have hnk := HIN.out rs[k] (List.getElem_mem hlt)
         clear hc hrk
         generalize rs[k] = r at *
         obtain ⟨ra, rn, rc⟩ := r
         unfold Row.v at hck
         simp only at *
         have HCL := hide (fun (w' : World) (hb : Below wr.heap.size wr w') => checkClause_any vars hv hv2 ra rc rn hnk w' (HIR.out.later hb))
         have hbd : Below wr.heap.size wr wr.drew := (Below.refl _ wr).drew
         have HB2 := hide (bthen hbw hbd)
         clear hnk hbw
         by_cases hz : rowE vars rn = 0
         · rw [hz] at HCL HD
           have HNX : Hid (firstE vars (numsOf rs) = firstE vars ((numsOf rs).drop (k + 1))) := by rw [hf.out, HD.out]; rfl
           clear HD hf hz
           go_wp2
           go_region_held3 (fun w' => w'.cell? ⟨w.heap.size, 0, none⟩ = some (.int .i64 vars) ∧ w'.cell? ⟨w.heap.size, 1, none⟩ = some (.slice (some ⟨b, off, none⟩) rs.length cap) ∧ w'.cell? ⟨b, off + k, none⟩ = some (.slice ra rn.length rc))
             (go_keep)
             ((go_at_call 34; refine (HCL.out _ hbd).mono ?_; rintro e w' ⟨rfl, rfl⟩))
           all_goals
             go_wp2
             go_roundw
             case rel => exact ⟨k + 1, by omega, by go_num, HNX, HB2.out⟩
             case measure => simp [intOf]; omega
         · have hz' : (rowE vars rn != 0) = true := by simpa using hz
           have HX : Hid (R = rowE vars rn) := by rw [HE.out, hf.out, HD.out, if_pos hz]; rfl
           clear HD hf hz HE
           generalize rowE vars rn = Z at *
           go_wp2
           go_region_held3 (fun w' => w'.cell? ⟨w.heap.size, 0, none⟩ = some (.int .i64 vars) ∧ w'.cell? ⟨w.heap.size, 1, none⟩ = some (.slice (some ⟨b, off, none⟩) rs.length cap) ∧ w'.cell? ⟨b, off + k, none⟩ = some (.slice ra rn.length rc))
             (go_keep)
             ((go_at_call 34; refine (HCL.out _ hbd).mono ?_; rintro e w' ⟨rfl, rfl⟩))
           all_goals
             go_wp2
             go_ret
             exact ⟨ret_int HX.out.symm, HBW.out.drew⟩
       · have HX : Hid (R = 0) := by
           rw [HE.out, hf.out, List.drop_of_length_le (by omega)]; rfl
         clear HE hf
         go_wp2
         go_ret
         exact ⟨ret_int HX.out.symm, HBW.out⟩
end Go.Proofs.YtmambfdimeeijaaGreatDoor
