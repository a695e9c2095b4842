/- A searcher: places, levels. -/
import Derived.Test.YtkinmangilbeeaaGreatDoorLd
namespace Go.Proofs.YtkinmangilbeeaaGreatDoor.Sr
open Go.RowKit Go.Maps Go.Proofs.YtkinmangilbeeaaGreatDoor.Pf
set_option maxRecDepth 100000

/-- What Place tells. -/
def PlOut (w : World) (st : List Int) (x : Int) (e : Ending) (w' : World) : Prop := ∃ c, e = .returned (.tuple #[.int .i64 c, .bool (decide (x ∈ st))]) ∧ (∀ i : Nat, st[i]? = some x → c = i) ∧ w' = w
set_option maxHeartbeats 1000000 in
theorem place_any {w : World} {X : Nat → Prop} {R nS nW : Nat} {B : Bd} (h : BdAt w X R nS nW B) (x : Int) (hx : Small x) :
    Calls Tryz.prog 81 #[.pointer (some ⟨R, 0, none⟩), .int .i64 x] w (PlOut w B.st x) := by
  obtain ⟨S, W, vc, vs, wk, cg, cc, wv, h⟩ := h
  obtain ⟨c, hl, hc⟩ := look103 h.so hx
  have c5 := h.c5
  have HC := hide hc
  clear h hc
  have HT : Hid (decide (x ∈ B.st) = decide (x ∈ B.st)) := rfl
  generalize hd : decide (x ∈ B.st) = t at hl
  have HD := hide hd
  clear hd HT
  go_enter Tryz.func81, Tryz.ntmps81
  go_wp2_with fail
  go_ret2
  exact ⟨c, by rw [HD.out]; rfl, HC.out, rfl⟩
/-- The level of the step by which a number came to be not so. -/
def lvOf (B : Bd) (n : Int) : Int := (B.sp.getD (B.st.idxOf (-n)) (0, 0, 0)).2.1
def lvMax (B : Bd) (l : List Int) : Int := l.foldl (fun m n => max m (lvOf B n)) 0
theorem BdAt.step {w : World} {X : Nat → Prop} {R nS nW : Nat} {B : Bd} (h : BdAt w X R nS nW B) {j : Nat} (hj : j < B.sp.length) : ∃ g cap, w.cell? ⟨R, 1, none⟩ = some (.slice (some ⟨g, 0, none⟩) B.sp.length cap) ∧ w.cell? ⟨g, j * 3, none⟩ = some (.int .i64 B.sp[j].1) ∧ w.cell? ⟨g, j * 3 + 1, none⟩ = some (.int .i64 B.sp[j].2.1) ∧ w.cell? ⟨g, j * 3 + 2, none⟩ = some (.int .i64 B.sp[j].2.2) := by
  obtain ⟨S, W, vc, vs, wk, cg, cc, wv, h⟩ := h
  have c1 := h.c1
  rcases h.st.2 with ⟨e, e0⟩ | ⟨g, cap, cur, e, _⟩
  · omega
  · subst e
    have hcell : ∀ d u, (flatS B.sp)[j * 3 + d]? = some u → w.cell? ⟨g, j * 3 + d, none⟩ = some u := fun d u hu => by
      rw [show (⟨g, j * 3 + d, none⟩ : Addr) = (⟨g, 0, none⟩ : Addr).add (j * 3 + d) by rw [Addr.add_lit, Nat.zero_add]]
      exact h.st.cells (g := g) rfl _ _ hu
    exact ⟨g, cap, c1, hcell 0 _ (flatS_at hj).1, hcell 1 _ (flatS_at hj).2.1, hcell 2 _ (flatS_at hj).2.2⟩
set_option maxHeartbeats 4000000 in
theorem levelOf_s (base : Nat) (w : World) (s : Nat) (XB XQ : Nat → Prop) (R nS nW q gp gw gm gl : Nat) (vh vl vp : Value) (S : Sx) (h : Ser base w s XB XQ R nS nW q gp gw gm gl vh vl vp S) (p : Option Addr) (cap : Nat) (l : List Int) (hp : IntsAt w p l) (hl : l.length ≤ 1000000) (hin : ∀ x ∈ l, Small x ∧ -x ∈ S.B.st) :
    Calls Tryz.prog 62 #[.pointer (some ⟨s, 0, none⟩), .slice p l.length cap] w fun e w' => e = .returned (.int .i64 (lvMax S.B l)) ∧ Below w.heap.size w w' := by
  have HS := hide h
  have HP := hide hp
  have HIN := hide hin
  clear h hp hin
  go_enter Tryz.func62, Tryz.ntmps62
  go_wp2_with fail
  go_loopw [5, 12] (fun lx t wr => ∃ j : Nat, j ≤ l.length ∧ t = .int .i64 j ∧ lx = .int .i64 (lvMax S.B (l.take j)) ∧ Hid (Below w.heap.size w wr)) (fun _ t _ => l.length - (intOf t).toNat)
  case atStart => exact ⟨0, Nat.zero_le _, rfl, rfl, Below.refl _ _⟩
  case round =>
    obtain ⟨j, hj, rfl, rfl, HB⟩ := hrel
    by_cases hlt : j < l.length
    · have hlti : (j : Int) < (l.length : Int) := by omega
      have e7 : (0 : Int) ≤ (j : Int) := by omega
      obtain ⟨b, off, hpe, hcl⟩ := (HP.out.later HB.out) (by omega)
      subst hpe
      have x0 := hcl j hlt
      obtain ⟨x, hx⟩ : ∃ x, l[j] = x := ⟨_, rfl⟩
      rw [hx] at x0
      obtain ⟨hsm, hmem⟩ := HIN.out x (hx ▸ List.getElem_mem hlt)
      have hx1 := hsm.1
      have hx2 := hsm.2
      have w1 := wrap_in (-x) (by omega) (by omega)
      have HSR := hide (HS.out.later HB.out)
      have s0 := HSR.out.s0
      have HPL := hide (place_any HSR.out.bd (-x) hsm.neg)
      have HMM := hide (decide_eq_true hmem)
      have hi : S.B.st.idxOf (-x) < S.B.st.length := List.idxOf_lt_length_of_mem hmem
      have his : S.B.st.idxOf (-x) < S.B.sp.length := by rw [st_len] at hi; exact hi
      obtain ⟨g, cp, c1, q0, q1, q2⟩ := BdAt.step HSR.out.bd his
      have HNX : Hid (lvMax S.B (l.take (j + 1)) = max (lvMax S.B (l.take j)) (S.B.sp[S.B.st.idxOf (-x)].2.1)) := by
        unfold Hid lvMax
        rw [List.take_succ_eq_append_getElem hlt, List.foldl_append, hx]
        simp only [List.foldl_cons, List.foldl_nil]
        unfold lvOf
        rw [List.getD_eq_getElem?_getD, List.getElem?_eq_getElem his]
        rfl
      have HIX : Hid (∀ c : Int, (∀ i : Nat, S.B.st[i]? = some (-x) → c = i) → c = (S.B.st.idxOf (-x) : Int)) := fun c hc => hc _ (by rw [List.getElem?_eq_getElem hi, List.getElem_idxOf])
      generalize S.B.sp[S.B.st.idxOf (-x)].2.1 = lv at *
      generalize S.B.sp[S.B.st.idxOf (-x)].1 = z1 at *
      generalize S.B.sp[S.B.st.idxOf (-x)].2.2 = z2 at *
      generalize S.B.st.idxOf (-x) = ix at *
      have e1 : (ix : Int) < (S.B.sp.length : Int) := by omega
      have e2 : (0 : Int) ≤ (ix : Int) := by omega
      generalize lvMax S.B (l.take j) = lm at *
      clear hcl hmem hx hi
      go_wp2_with fail
      refine HPL.out.mono ?_
      rintro e w2 ⟨c, rfl, hc, rfl⟩
      rw [HMM.out]
      obtain rfl := HIX.out c hc
      clear hc HIX HPL
      go_wp2_with fail
      go_roundw
      case rel => exact ⟨j + 1, hlt, by go_num, by rw [HNX.out], HB⟩
      case measure => simp [intOf]; omega
    · have hlti : ¬ (j : Int) < (l.length : Int) := by omega
      have HJ : Hid (l.take j = l) := List.take_of_length_le (by omega)
      rw [HJ.out] at *
      clear hlt
      go_wp2
      go_ret
      exact ⟨rfl, HB.out⟩
end Go.Proofs.YtkinmangilbeeaaGreatDoor.Sr

namespace Go.Proofs.YtkinmangilbeeaaGreatDoor.Sr
open Go.RowKit Go.Maps Go.Proofs.YtkinmangilbeeaaGreatDoor.Pf
set_option maxRecDepth 100000

/-- A searcher that has just been made. -/
def newSx (V : Nat) (B : Bd) (most : Int) : Sx := ⟨B, newQ V V, V, most, 0, List.replicate V 0, List.replicate (V + 1) 0, 100, 100⟩
theorem ser_new {base V : Nat} {W : World} {s R nS nW q gp gw gm gl a1 a2 b1 b2 : Nat} {XB XQ : Nat → Prop} {vh vl : Value} {B : Bd} {most : Int}
    (hbk : W.heap[s]? = some (.cells #[.pointer (some ⟨R, 0, none⟩), .pointer (some ⟨q, 0, none⟩), .int .i64 V, vl, .int .i64 most, .slice none 0 0, .int .i64 0, .slice (some ⟨gm, 0, none⟩) V V, .slice (some ⟨gl, 0, none⟩) (V + 1) (V + 1), .int .i64 100, .int .i64 100] 82 (0, 0)))
    (hbd : BdAt W XB R nS nW B) (hq : Qm W XQ q gp gw vh (newQ V V)) (hgm : W.heap[gm]? = some (.cells (Array.replicate V (.int .i64 0)) 3 (0, 0))) (hgl : W.heap[gl]? = some (.cells (Array.replicate (V + 1) (.int .i64 0)) 3 (0, 0)))
    (hA : ∀ g, XB g → a1 ≤ g ∧ g < a2) (hB : ∀ g, XQ g → b1 ≤ g ∧ g < b2) (h1 : base ≤ a1 ∧ a1 ≤ a2 ∧ a2 ≤ b1 ∧ b1 ≤ b2 ∧ b2 ≤ s) (h2 : base ≤ gm ∧ gm < s ∧ (gm < a1 ∨ (a2 ≤ gm ∧ gm < b1) ∨ b2 ≤ gm)) (h3 : base ≤ gl ∧ gl < s ∧ (gl < a1 ∨ (a2 ≤ gl ∧ gl < b1) ∨ b2 ≤ gl)) (h4 : gm ≠ gl) :
    Ser base W s XB XQ R nS nW q gp gw gm gl vh vl (.slice none 0 0) (newSx V B most) := by
  refine ⟨by simp only [newSx, List.length_replicate]; exact hbk, hbd, hq, by rw [hgm]; simp [newSx], by rw [hgl]; simp [newSx], fun g ha hb => ?_, fun h => ?_, fun h => ?_, fun h => ?_, fun h => ?_, fun h => ?_, fun h => ?_, h4, fun g h => ?_, fun g h => ?_, by omega, by omega, by omega⟩
  · have := hA g ha; have := hB g hb; omega
  · have := hA _ h; omega
  · have := hB _ h; omega
  · have := hA _ h; omega
  · have := hB _ h; omega
  · have := hA _ h; omega
  · have := hB _ h; omega
  · have := hA g h; omega
  · have := hB g h; omega
theorem heap_new_at {w : World} {o : Obj} {k : Nat} (h : k = w.heap.size) : (w.alloc o).heap[k]? = some o := by
  subst h
  exact heap_alloc_new w o
theorem heap_drew_at {w : World} {k : Nat} : w.drew.heap[k]? = w.heap[k]? := rfl
theorem BdAt.later {w w1 : World} {X : Nat → Prop} {R nS nW : Nat} {B : Bd} (h : BdAt w X R nS nW B) (hb : Below w.heap.size w w1) : BdAt w1 X R nS nW B := BdAt.apart h hb.size fun g hg => hb.block g (BdAt.xb h g hg)
/-- What newSearcher leaves. -/
def NsOut (w : World) (V : Nat) (L : List (List Int)) (vl : Value) (most : Int) (e : Ending) (w' : World) : Prop :=
  (∃ s R nS nW q gp gw gm gl vh B XB XQ, e = .returned (.pointer (some ⟨s, 0, none⟩)) ∧ Ser w.heap.size w' s XB XQ R nS nW q gp gw gm gl vh vl (.slice none 0 0) (newSx V B most) ∧ Inv V L (fun _ => False) B ∧ (B.level = 0 ∧ ∃ g f, spreadN g (addAll L) = some (B, f)) ∧ (B.lost = false → B.spread = B.sp.length) ∧ B.cl.length ≤ L.length ∧ nS ≤ 1000000000 ∧ nW ≤ 1000000000000) ∧ Below w.heap.size w w'
set_option maxHeartbeats 8000000 in
theorem newS_any (V : Nat) (hV : V ≤ 100000) (p : Option Addr) (cap : Nat) (rs : List Row) (hl : rs.length ≤ 800000) (hx : ∀ r ∈ rs, r.ns.length ≤ 200 ∧ ∀ x ∈ r.ns, Num V x) (fuel : Int) (hf : 0 ≤ fuel ∧ fuel ≤ 1000000000) (w : World) (hC : ClAt w p rs) :
    Calls Tryz.prog 29 #[cval V p rs.length cap, .int .i64 fuel] w (NsOut w V (rs.map (·.ns)) (.slice p rs.length cap) (fuel * 100)) := by
  have hb0 : Below w.heap.size w (w.alloc (.cells #[.int .i64 V, .slice p rs.length cap] 24)) := bal (Below.refl _ _) _
  have m0 : (w.alloc (.cells #[.int .i64 V, .slice p rs.length cap] 24)).cell? ⟨w.heap.size, 0, none⟩ = some (.int .i64 V) := by simp [go_sem]
  have m1 : (w.alloc (.cells #[.int .i64 V, .slice p rs.length cap] 24)).cell? ⟨w.heap.size, 1, none⟩ = some (.slice p rs.length cap) := by simp [go_sem]
  have HNW := hide (fun (W : World) (hb : Below (w.alloc (.cells #[.int .i64 V, .slice p rs.length cap] 24)).heap.size (w.alloc (.cells #[.int .i64 V, .slice p rs.length cap] 24)) W) => new_any V (by omega) V p cap rs hl hx W (hC.later (bthen hb0 hb)))
  have HNQ := hide (fun (W : World) => newQ_any V (by omega) W)
  have HB0 := hide hb0
  have HSW : Hid ((w.alloc (.cells #[.int .i64 V, .slice p rs.length cap] 24)).heap.size = w.heap.size + 1) := by unfold Hid; simp
  have hmk1 := make_zeros V (by omega)
  have hmk2 := make_zeros (V + 1) (by omega)
  have hv1 : ((V + 1 : Nat) : Int) = (V : Int) + 1 := by omega
  rw [hv1] at hmk2
  have wa : IntKind.i64.wrap ((V : Int) + 1) = (V : Int) + 1 := by rw [IntKind.wrap_i64]; omega
  have wb : IntKind.i64.wrap (fuel * 100) = fuel * 100 := by rw [IntKind.wrap_i64]; omega
  unfold cval
  unfold cval at HNW
  clear hx hC hb0
  go_enter Tryz.func29, Tryz.ntmps29
  go_wp2_with fail
  generalize w.alloc (.cells #[.int .i64 V, .slice p rs.length cap] 24) = w0 at *
  go_region_held3 (fun w' => w'.cell? ⟨w.heap.size, 0, none⟩ = some (.int .i64 V) ∧ w'.cell? ⟨w.heap.size, 1, none⟩ = some (.slice p rs.length cap))
    (first | exact ⟨m0, m1⟩ | exact ⟨cell_later (w := w0) (by (repeat (first | exact Below.refl _ _ | refine bal ?_ _ | refine Below.drew ?_ | refine bthen ?_ hbA | refine bthen ?_ hbB))) m0, cell_later (w := w0) (by (repeat (first | exact Below.refl _ _ | refine bal ?_ _ | refine Below.drew ?_ | refine bthen ?_ hbA | refine bthen ?_ hbB))) m1⟩ | go_keep)
    (first
      | (go_at_call 24; refine (HNW.out _ (by (repeat (first | exact Below.refl _ _ | refine bal ?_ _ | refine Below.drew ?_ | refine bthen ?_ hbA | refine bthen ?_ hbB)))).mono ?_; rintro e wA ⟨R, B, XB, nS, nW, rfl, hbd, hbA, hxA, hI, hlv, hsp, hcl, hn1, hn2⟩)
      | (go_at_call 46; refine (HNQ.out _).mono ?_; rintro e wB ⟨⟨q, gp, gw, rfl, XQ, ⟨vh, hq⟩, hxq⟩, hbB⟩))
  all_goals
    have szA := hbA.size
    have szB := hbB.size
    have sz0 := HB0.out.size
    have szw := HSW.out
    have hxA2 : ∀ g, XB g → _ ∧ g < wA.heap.size := fun g hg => ⟨hxA g hg, BdAt.xb hbd g hg⟩
    have hxq2 : ∀ g, XQ g → _ ∧ g < wB.heap.size := fun g hg => ⟨hxq g hg, hq.xb g hg⟩
    simp only [World.size_alloc, World.size_drew] at szA szB
    have HXA := hide hxA2
    have HXQ := hide hxq2
    have HRS := hide (And.intro hI (And.intro hlv (And.intro hsp (And.intro hcl (And.intro hn1 hn2)))))
    clear hxA hxq hxA2 hxq2 hI hlv hsp hcl hn1 hn2
    go_wp2
    go_ret
    refine ⟨⟨_, R, nS, nW, q, gp, gw, _, _, vh, B, XB, XQ, rfl, ser_new (heap_new_at (by simp; done)) (BdAt.later hbd ?c1) (hq.later ?c2) ?hgm ?hgl HXA.out HXQ.out ?h1 ?h2 ?h3 ?h4, HRS.out⟩, bthen HB0.out ?bw⟩
    case c1 => (repeat (first | exact Below.refl _ _ | refine bthen ?_ hbB | refine bthen ?_ hbA | refine bal ?_ _ | refine Below.drew ?_))
    case c2 => (repeat (first | exact Below.refl _ _ | refine bthen ?_ hbB | refine bthen ?_ hbA | refine bal ?_ _ | refine Below.drew ?_))
    case bw => (repeat (first | exact Below.refl _ _ | refine bthen ?_ hbB | refine bthen ?_ hbA | refine bal ?_ _ | refine Below.drew ?_))
    case hgm => (repeat (first | exact heap_new_at (by simp; done) | refine (hbB.block _ (by first | (simp; done) | (simp; omega) | omega)).trans ?_ | refine (hbA.block _ (by first | (simp; done) | (simp; omega) | omega)).trans ?_ | refine (Below.heap_alloc _ _ _ (by first | (simp; done) | (simp; omega) | omega)).trans ?_ | rw [heap_drew_at]))
    case hgl => (repeat (first | exact heap_new_at (by simp; done) | refine (hbB.block _ (by first | (simp; done) | (simp; omega) | omega)).trans ?_ | refine (hbA.block _ (by first | (simp; done) | (simp; omega) | omega)).trans ?_ | refine (Below.heap_alloc _ _ _ (by first | (simp; done) | (simp; omega) | omega)).trans ?_ | rw [heap_drew_at]))
    case h1 => simp only [World.size_alloc, World.size_drew]; omega
    case h2 => simp only [World.size_alloc, World.size_drew]; omega
    case h3 => simp only [World.size_alloc, World.size_drew]; omega
    case h4 => omega
end Go.Proofs.YtkinmangilbeeaaGreatDoor.Sr
